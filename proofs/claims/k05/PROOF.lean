import PyProof.Rows.All
import Wide.All
import OpenK.AllK
import Wide.FinOn
import Lean
import PyProof.EqAt
import PyProof.EqKinds
import PyProof.TupleCall
import PyProof.Rows.SortRuns
import PyProof.Rows.SortShellK
import PyProof.P3Eq
import PyProof.Draws
import PyProof.EnumMake
import PyProof.NeData
import KE.LcSums
import PyProof.WalkInts
import PyProof.SeqI3
import KE.KSortTup
import KE.KRevIter
import PyProof.FactsAll.range_2
import PyProof.StrWalks
import PyProof.StrBlockH
import PyProof.StrLawsTight
import PyProof.NeKinds
import PyProof.ReprReads
import PySem.Challenge.RW_rooklands_k05_whole_boards
import PyProof.FactsAll.set_1
import PyProof.SetRoads
import PyProof.Rows.SetFrom
import PyProof.CollectWalk
import PyProof.Walks
import PyProof.TupleIter
local macro_rules | `(tactic| omega) => `(tactic| first | lia | omega +splitDisjunctions)
open PySem.W renaming Frag->Qa,keepIn->Qd,mg_of->Ql,nsIn->Qp,codeIn->Qx,fnOf->QB,mg_none_of->QQ,kia_one->JQ,excIn->Qa3,kitOne->QbW,methodObj->QcX,instObj->QdV,OpenLaw->QdW,lookIn->QeB,cellsFrom_some->QgI,hideAll_get->Qix,of_hideAll->Qjp,kitx_list->QjB,kitx_dict->QjC,plainGet->Ql4,hideAll->Qme,findIn->Qoj,WalkO->Qpn
open PySem renaming PyData->Qb,wpAny_pure->Qm,Program->Qz,FuncData->QN,Expr->QR,Around->Jb,World->Jf,wpAny_newObj_type->JH,wpAny_field->JJ,Heap->JR,wpAny_callSpecial?_slot->Zi,wpAny_call_entry->Zo,wpAny_truthy_bool->ZE,Stmt->ZG,wpAny_seqItems->ZU,wpAny_setField_rec->Z0,wpAny_pyIter_tuple->Z1,wpAny_passesOwn->Yc,wpAny_of_eq->Yd,wpAny_loadPart'->Ye,wpAny_pyIter_enum->Yi,wpAny_holding->Yj,mem_of_lookup->Yk,Scope->YW,sizeLine_eq->Y7,call_meets->Y8,Keyword->Qac,NameKind->Qaf,Paired->Qap,wpAny_letOwnedTupleGo_enum->Qbc,wpAny_Call_Name_kw->Qbr,wpAny_bindName->QbA,Fin->QbK,wpAny_pyIter_zip->Qco,wpAny_pyIter_rangeiter->Qcq,wpAny_execs_nil->QcW,Builtin->QcY,ReadsAll->Qc0,wpAny_updateSeq_pair->Qdb,wpAny_onRaise->Qez,rangeSize_one->QeA,PassesOwn->QeD,Operator->QeE,Comprehension->QeH,seqIndex_neg->QgG,codeAny_mono->QgH,IsPart->QgL,wpAny_eqBool_int->QgO,noFill_tuple_add->QgP,seqIndex_of->Qiw,IsRangeIter->Qiy,wpAny_letOwnedTupleGo_zip->Qjy,Reads->QjA,wpAny_comprehension_free->Ql2,typeIs_str->Ql3,wpAny_pyNext_enum_itemD->Ql9,seq_tuple_add->Qma,call->Qmd,BindsTo->Qmk,wpAny_pyNext_range_end->Qob,wpAny_pyNext_enum_endD->Qoc,wpAny_getItem_list_neg->Qod,wpAny_Call_method_late->Qoe,codeAny_compStart_list->Qog,wpAny_typeOf->Qpj,concat_meets->Qpk,IsZip->Qpv,CmpOp->Qpw,wpAny_newFunctionEnv->QsL,wpAny_letGo->QsW,Model->Qs4,IsRange->Qs7,wpAny_List_spliced->Qvs,ZipApart->Qvu,Within->Qvw,wpAny_sequenceKey->QvO,wpAny_pyIter_list->QvP,wpAny_assign_Name->QvQ,wpAny_Name->QvR,typeIs_int->QvT,slot_list_getitem->QvU
open PySem.Heap renaming get?_push_of_some->Qc,lt_size->Qk,get?_push_size->Qu,size_push->Yg,SameBut->QbY,get?_update_other->Qiz,get?_update_self->Qjs,IsTuple->Qjt,FlyingW->Qwb
open List renaming length_map->Qe,getElem?_eq_getElem->Qf,range->Qg,getD_eq_getElem?_getD->Qi,size_toArray->Qj,mem_cons->Qq,getElem?_map->Qr,length_range->Qv,mem_range->Qw,mem_map->QF,not_mem_nil->QK,length_append->QM,mem_filter->QP,mem_cons_self->QV,length_cons->QZ,mem_cons_of_mem->Q0,getElem?_eq_none->Q2,replicate->Q4,lookup_cons->Q8,getElem?_range->Q9,filter_cons_of_pos->Jd,filter_cons_of_neg->Je,mem_of_getElem?->Ji,mem_append_right->Jk,getElem?_eq_some_iff->Jm,map_map->Jo,mem_iff_getElem?->Jt,nodup_cons->JI,nodup_range->JK,all_eq_true->JL,mem_singleton->JS,map_cons->JT,replicate_succ->JX,map_congr_left->JY,range_succ->J6,mem_flatMap->J8,map_append->Zg,filterMap_cons->Zh,pairwise_map->Zw,length_set->Zx,flatten_cons->Zy,toArray->ZA,getElem?_replicate->ZB,flatMap_append->ZC,filter_eq_self->ZD,take_length->ZI,getElem_mem->ZJ,append_nil->ZV,ext_getElem?->Z3,pairwise_iff_getElem->Yf,mem_append->Ys,getElem?_cons_succ->Yt,filterMap_map->Yu,any_cons->Yv,pairwise_lt_range->YG,take_add_one->YJ,flatMap_cons->YK,filter_congr->YL,length_replicate->YU,filterMap_append->YV,mem_toArray->Y4,length_take->Y5,getElem?_set_ne->Qaa,countP_eq_length_filter->Qag,idxOf_lt_length_of_mem->Qav,perm_ext_iff_of_nodup->QaD,getElem?_append_right->QaE,filter_append->QaG,getElem?_append_left->QaU,nodup_append->Qba,length_filterMap_le->Qbb,getElem?_set_self->QbG,length_filter_le->QbX,mem_append_left->Qcp,toList_toArray->QcQ,set_comm->Qc1,mem_filterMap->Qc2,length_eq_countP_add_countP->Qdc,eraseIdx_eq_take_drop_succ->QdP,append_assoc->QdQ,all_map->QdY,length_drop->Qd7,range'->Qfs,of_mem_zip->Qft,lookup->Qfu,length_nil->Qfv,length->Qfw,forIn_cons->Qfx,rel_of_pairwise_cons->QgK,map_take->QhI,getElem?_cons_zero->QhJ,flatMap_singleton'->QhK,all_cons->QhL,zipWith->Qjq,any_map->Qjr,pairwise_append->QjD,zip_cons_cons->Qmg,getElem_idxOf->Qmh,filter_filter->Qmi,getElem?_set->Qol,foldl->Qom,zipIdx_cons->Qpp,range'_succ->Qpq,getElem_map->Qpr,getElem_inj->Qps,flatMap_map->Qpt,any_eq_true->Qpu,zipIdx_nil->QsP,take_range->QsQ,nil_append->QsR,filter_nil->QsS,filter_map->QsT,forIn_nil->Qs5,drop_zero->Qs6,take_nil->Qvy,drop_nil->Qvz,map_nil->Qv8
open Nat renaming le_refl->Qh,ne_of_lt->QC,lt_of_lt_of_le->QH,le_trans->QJ,zero_le->Js,le_of_lt->Ju,lt_irrefl->ZF,mul_le_mul->Yl,lt_of_le_of_lt->Yy,add_sub_cancel->Yz,ne_of_gt->Qb3,pow_le_pow_right->Qcr,lt_trichotomy->QdX,succ_mul->Qd6,min_le_right->QeF,min_eq_left->QfG,le_succ->QfH,lt_succ_of_lt->Qpo,le_max_right->QsN,le_add_right->QsO,min_le_left->Qs3
open Bool renaming false_ne_true->Qo,and_eq_true_iff->QU,and_eq_true->Jy,eq_iff_iff->J7,false_eq_true->QaI,true_and->Qbt,not_eq_true'->QdS,false_and->Qs9
open PySem.PyData renaming int->Qs,eqv->QL,depthAll->Ja,canLayAll0->JF,depth->Zk,list->Zz,tuple->Qaw,eqvAll->Qa7,bool->Qa8,canLay0->Qb2,strOk->Qs1
open Option.some renaming inj->Qy
open Int renaming toNat_natCast->QD,zero_add->QaV,add_zero->QjE,natCast_nonneg->Qon
open Or renaming inr->QY,inl->Q1
open PySem.NameKind renaming free->Q3,cell->ZQ
open PyProof.Rows renaming callWith_type1->Q5,slot_tuple_getitem->JE,assignInOrder_cons->Z2,Keyed->YY,SortKind->Qbs,IntsAre->QbB,AllBare->QcZ,assignInOrder_nil->QfD,listUpdate_at->Qmb,subscriptTail_builtinR->Qof,seqEpoch_at->QsX,entry_tuple_getitem->QsY,args_tuple_getitem->Qvt,unpackItems_tuple->QvS,boot_range->QvV,Call_->Qwd
open PySem.Builtin.Range renaming rangeFitsLong->Jl,rangeSize->JM,rangeFields->Qwi
open PySem.Builtin.SmallTypes renaming nextOf->Jr,ownedTupleIsFree->J1,ownedTupleHandOut->Qay
open PySem.Value renaming none->Jz,ref->JP,int->Qa1,bool->Qa2,type->QbV,builtin->QgQ,str->Qpl,float->QvY
open PySem.Txt renaming split->JB,join->QaS
open Array renaming length_toList->JN,getElem?_eq_getElem->JZ,getD_eq_getD_getElem?->Zf,getElem_toList->Y6,perm_iff_toList_perm->QfA,getElem?_toList->QiA,mem_toList_iff->Qjv,toList_append->QjF,toList_inj->Qop,toList->QvD
open PySem.Builtin.Int renaming intBits->JU,intTooBig->QeI
open ForInStep renaming yield->Zc
open PySem.PassesOwn renaming never->Zl
open Option renaming map_eq_some_iff->ZH,getD_none->Qmf,guard->Qs2,none->Qvx,map->Qv7
open False renaming elim->ZK
open PySem.Builtin.Slice renaming slicePlaces->ZP,sliceAdjust->YZ,sliceApplied->QcS,slicePartIndex->Qwg,sliceFields->Qwh
open PySem.Builtin.Tuple renaming tupleExact->ZW,tupleItemsOf->QcR,tupleIsExact->Qwe,tupleCompareSizes->Qwf
open PySem.Str renaming ofString->ZX,join->QaT,cps_append->Qvv
open PySem.Obj renaming mapSeq->Z6,data_mapFields->Qok
open PySem.F renaming slot_tuple_iterator_next->Yh,plainAttrs_list->Yn,args_tuple_add_2->QaF,entry_tuple_add->Qa4,slot_tuple_add->Qbd,plainAttrs_str->Qbe,slot_zip_next->Qcs,slot_range_reversed->Qct,args_str_split_2->Qd0,excBase_ValueError->Qd5,entry_str_split->QeG,type_list_append->Qfq,slot_list_append->Qfr,slot_str_split->QfJ,args_tuple_iterator_next_1->QgM,type_str_join->QgT,slot_str_join->QgU,entry_tuple_iterator_next->QgV,plain_reversed_new->Qoo,args_zip_next_1->Qs8,entry_zip_next->QvC,slot_int_rmul->Qwc
open List.Pairwise renaming filter->Yw,imp_of_mem->Qab,imp->QfI,nil->Qv9,map->Qwa
open PySem.Challenge renaming rw_rooklands_k05_whole_boards->YX,pw_rooklands_k05_whole_boards->Qs0
open Prod.mk renaming inj->Y9
open PySem.Builtin.List renaming listTooLong->Qah
open PySem.Builtin.Str renaming occurrences->Qax,partsBetween->QdR,strKind->QfK
open List.cons renaming inj->QaH
open Ne renaming symm->Qa9
open PySem.Builtin renaming bitAnd->QbZ,bitOr->Qcu
open Sum renaming inl->Qb1,inr->QfE
open PySem.Calls renaming evalArgs_plain->Qb4,Name_function_global->Qfz,callWith_builtin->QhM,spliced_cons->Ql5,spliced_nil->Qmj
open True renaming intro->QdO
open List.Perm renaming refl->QdZ,eq_of_pairwise->Qd8
open Prod renaming ext->QeC
open PySem.Heap.SameBut renaming update->Qfy
open PySem.StrLaws renaming partsBetween_eq->QfF,join_split->Qjn,partsFrom->Qjz
open PySem.Paired renaming length->QgJ
open PySem.SeqAt.EqAt renaming str_int->QgR,int_str->QgS
open PySem.Shared renaming heap->Qjo
open PySem.Flow renaming next->Qju
open PySem.SeqAt renaming EqAt->Qmc,in_tupleAt->Qoh,eqAt_reads->Qoi,in_listAt->Qpm
open Std.Legacy.Range renaming forIn_eq_forIn_range'->QsM
open Sum.inl renaming inj->QsZ
open PySem.Heap.UpToSlots renaming of_keeps->QvA
open PySem.Heap.IsSliceOf renaming new->QvB
open PySem.Walks renaming range->QvW
open PySem.W.WShape renaming has->QvX
open PySem.EqMixed renaming ne_str_int->QvZ,ne_str_bool->Qv0,ne_int_str->Qv1,ne_bool_str->Qv2,eq_str_int->Qv3,eq_str_bool->Qv4,eq_int_str->Qv5,eq_bool_str->Qv6
open PySem PySem.Spec PyProof.Rows
set_option Elab.async false
set_option linter.all false
set_option maxRecDepth 100000
namespace L2
abbrev Key:=Sum Int Str
def QuH:Key->Value->Bool
 |.inl k,v=>Value.isInt k v
 |.inr x,v=>Value.isStrOf x v
def Qyz(w:Jf):Key->Int
 |.inl k=>hashInt k
 |.inr x=>hashStr w x
theorem Zu:∀{k:Key}{v:Value},QuH k v=true->(∃i t,k=Qb1 i/\v=Qa1 i t)∨(∃x t,k=QfE x/\v=Qpl x t)
 |.inl i,v,h=>by
  obtain⟨t,e⟩:=Value.isInt_shape (k:=i) (v:=v) h;exact .inl ⟨i,t,rfl,e⟩
 |.inr x,v,h=>by
  obtain⟨t,e⟩:=Value.isStrOf_shape (x:=x) (v:=v) h;exact .inr ⟨x,t,rfl,e⟩
theorem QuG(a b:Int):decide ((Qb1 a:Key)=Qb1 b)=(a == b):=by
 by_cases e:a=b
 ·subst e;simp
 ·have h:¬(Qb1 a:Key)=Qb1 b:=λq=>e (QsZ q)
  rw[decide_eq_false h];exact(beq_eq_false_iff_ne.mpr e).symm
theorem QuD(a b:Str):decide ((QfE a:Key)=QfE b)=decide (a=b):=by
 by_cases e:a=b
 ·subst e;simp
 ·have h:¬(QfE a:Key)=QfE b:=λq=>e (Sum.inr.inj q)
  rw[decide_eq_false h,decide_eq_false e]
theorem QuF(a:Int)(b:Str):decide ((Qb1 a:Key)=QfE b)=false:=decide_eq_false (λq=>nomatch q)
theorem QuE(a:Str)(b:Int):decide ((QfE a:Key)=Qb1 b)=false:=decide_eq_false (λq=>nomatch q)
def mixKind(prog:Qz)(w:Jf):PySem.KeyKind prog w Key where
 is:=QuH
 hash:=Qyz w
 inj:=λv a b ha hb=>by
  rcases Zu ha with⟨i,t,rfl,rfl⟩ | ⟨x,t,rfl,rfl⟩
  ·rcases Zu hb with⟨j,u,rfl,e⟩ | ⟨y,u,rfl,e⟩
   ·injection e with e1 _;rw[e1]
   ·exact nomatch e
  ·rcases Zu hb with⟨j,u,rfl,e⟩ | ⟨y,u,rfl,e⟩
   ·exact nomatch e
   ·injection e with e1 _;rw[e1]
 byValue:=λk v h=>by
  rcases Zu h with⟨i,t,rfl,rfl⟩ | ⟨x,t,rfl,rfl⟩<;>rfl
 pyHash:=λhv h=>by
  rcases Zu hv with⟨i,t,rfl,rfl⟩ | ⟨x,t,rfl,rfl⟩
  ·exact wpAny_pyHash_int h
  ·exact wpAny_pyHash_str h
 eqBool:=λhu hv h=>by
  rcases Zu hu with⟨i,t,rfl,rfl⟩ | ⟨x,t,rfl,rfl⟩
  ·rcases Zu hv with⟨j,u,rfl,rfl⟩ | ⟨y,u,rfl,rfl⟩
   ·rw[QuG] at h;exact QgO h
   ·rw[QuF] at h;exact QgS i t y u _ _ _ _ h
  ·rcases Zu hv with⟨j,u,rfl,rfl⟩ | ⟨y,u,rfl,rfl⟩
   ·rw[QuE] at h;exact QgR x t j u _ _ _ _ h
   ·rw[QuD] at h;exact wpAny_eqBool_str h
 «strs» := λk x t v h=>by
  rcases Zu h with⟨i,u,rfl,e⟩ | ⟨y,u,rfl,e⟩
  ·exact nomatch e
  ·injection e with e1 _
   subst e1;cases v<;>rfl
inductive V where
 |non | bl (b:Bool) | int (i:Int) | str (x:Str) | byt (b:Array UInt8) | flt (b:UInt64) | ref (a:Addr) | ty (n:String)
 deriving DecidableEq
def RelV:V->Value->Prop
 |.non,u=>u=Jz
 |.bl b,u=>u=Qa2 b
 |.int i,u=>∃t,u=Qa1 i t
 |.str x,u=>∃t,u=Qpl x t
 |.byt b,u=>∃t,u=Value.bytes b t
 |.flt b,u=>∃t,u=QvY b t
 |.ref a,u=>u=JP a
 |.ty n,u=>u=QbV n
abbrev Vals:List V->List Value->Prop:=Qap RelV
theorem Vals.length{xs:List V}{us:List Value}(r:Vals xs us):xs.length=us.length:=QgJ r
theorem Vals.get:∀{xs:List V}{us:List Value}{i:Nat}{x:V},Vals xs us->xs[i]? = some x->∃u,us[i]? = some u/\RelV x u
 |_,_,_,_,.nil,e=>by simp at e
 |_,_,0,_,.cons r _,e=>by simp at e;subst e;exact⟨_,rfl,r⟩
 |_,_,i+1,x,.cons _ t,e=>by
  obtain⟨u,h1,h2⟩:=Vals.get (i:=i) (x:=x) t (by simpa using e);exact⟨u,by simpa using h1,h2⟩
theorem Vals.set{x:V}{u:Value}(r:RelV x u):∀{xs:List V}{us:List Value}(i:Nat),Vals xs us->Vals (xs.set i x) (us.set i u)
 |_,_,_,.nil=>.nil
 |_,_,0,.cons _ t=>.cons r t
 |_,_,i+1,.cons q t=>.cons q (Vals.set r i t)
theorem Vals.append:∀{xs ys:List V}{us ws:List Value},Vals xs us->Vals ys ws->Vals (xs++ys) (us++ws)
 |_,_,_,_,.nil,s=>s
 |_,_,_,_,.cons r t,s=>.cons r (Vals.append t s)
theorem Vals.take:∀{xs:List V}{us:List Value}(n:Nat),Vals xs us->Vals (xs.take n) (us.take n)
 |_,_,0,_=>.nil
 |_,_,_+1,.nil=>.nil
 |_,_,n+1,.cons r t=>.cons r (Vals.take n t)
theorem Vals.drop:∀{xs:List V}{us:List Value}(n:Nat),Vals xs us->Vals (xs.drop n) (us.drop n)
 |_,_,0,r=>r
 |_,_,_+1,.nil=>.nil
 |_,_,n+1,.cons _ t=>Vals.drop n t
def Qxz:Option V->Option Value->Prop
 |some v,some u=>RelV v u
 |none,none=>True
 |_,_=>False
def KV{κ:Type}:List (κ×V)->List (κ×Value)->Prop:=Qap λ(p:κ×V)(q:κ×Value)=>p.1=q.1/\RelV p.2 q.2
def kV:Key->V
 |.inl i=>.int i
 |.inr x=>.str x
inductive HO where
 /-- a list -/
 |lst (xs:List V)
 /-- a tuple (never changes) -/
 |tup (xs:List V)
 /-- a dict whose keys are ints and texts;one whose keys are tuples of ints and texts (the empty one is both) -/
 |dK (kvs:List (Key×V)) | dT (kvs:List (List Key×V))
 /-- a set of ints: its members,its size -/
 |set (S:Int->Bool) (n:Nat)
 /-- an instance of the class at C,its dict at dx,its attributes -/
 |ins (C dx:Addr) (fs:List (Str×V))
 /-- the dict of the instance at x -/
 |own (x:Addr)
 /-- the dict of an exception -/
 |xd (fs:List (Str×V))
 /-- a bound method,f of x -/
 |met (f x:Addr)
 /-- a range object lo,lo+1,.. below hi -/
 |rng (lo hi:Int)
 /-- a thing that is known to the object (the script;a dict while a loop walks it): read,never written while it is so -/
 |frz (o:Obj) (u:HO)
 /-- a code object's table -/
 |tbl (ps:Array Value)
 /-- any other thing,by what is true of its one object (a def of one's own: SetO a S n:=HO.ext λh=>..) -/
 |ext (φ:JR->Prop)
abbrev Hp:=Addr->Option HO
def upd(H:Hp)(a:Addr)(o:HO):Hp:=λb=>if b=a then some o else H b
theorem Jh{H:Hp}{a:Addr}{o:HO}:upd H a o a=some o:=by unfold upd;rw[if_pos rfl]
theorem JC{H:Hp}{a b:Addr}{o:HO}(h:b≠a):upd H a o b=H b:=by unfold upd;rw[if_neg h]
theorem J4{H:Hp}{a b:Addr}{o:HO}(h:H a=some o)(h':H b=none):a≠b:=by
 intro e;subst e;rw[h] at h';cases h'
def TupN(h:JR)(a:Addr)(items:Array Value):Prop:=∃o,h.get? a=some o/\o.cls=.type "tuple" /\ o.dict=none/\∃n,o.data=.seq items n
theorem TupN.tup{h:JR}{a:Addr}{items:Array Value}(x:TupN h a items):IsTup h a items:=let ⟨o,e,c,_,d⟩:=x;⟨o,e,c,d⟩
theorem TupN.lt{h:JR}{a:Addr}{items:Array Value}(x:TupN h a items):a<h.objs.size:=let ⟨_,e,_⟩:=x;Qk e
theorem TupN.new(h:JR)(items:Array Value):TupN (h.push { cls:=.type "tuple",data:=.seq items }) h.objs.size items:=⟨_,Qu _ rfl,rfl,rfl,_,rfl⟩
section
variable(P:Qz)(w:Jf)
def ObjOk(H:Hp)(h:JR)(a:Addr):HO->Prop
 |.lst xs=>xs.length<=sizeLine/\∃(its:List Value)(n:Nat),Vals xs its/\h.get? a=some { cls:=.type "list",data:=.seq its.toArray n }
 |.tup xs=>xs.length<=sizeLine/\∃its:List Value,Vals xs its/\TupN h a its.toArray
 |.dK kvs=>kvs.length<=sizeLine/\(a == sysModules)=false/\∃vs,KV kvs vs/\h.DictOf (mixKind P w) a vs
 |.dT kvs=>kvs.length<=sizeLine/\(a == sysModules)=false/\∃xs:List (List Key×Addr×Value),
   Qap (λ(p:List Key×V)(q:List Key×Addr×Value)=>p.1=q.1/\H q.2.1=some (.tup (p.1.map kV))/\RelV p.2 q.2.2) kvs xs /\
   ∃o es ep,h.get? a=some o/\o.ExactDict/\o.data=.dict es ep/\es.toList=xs.map (entryOfKey (tupleKind (mixKind P w)))/\(xs.map (·.1)).Nodup
 |.set S n=>h.SetOf (intKind P w) a S n
 |.ins C dx fs=>H dx=some (.own a)/\fs.length<=1000/\dx≠a/\h.get? a=some (PySem.W.instObj C dx) /\
   ∃mA,h.Ns1 dx mA/\(∀f,Qxz (fs.lookup f) (mA f))/\PySem.Within mA (fs.map (·.1))
 |.own _=>∃o,h.get? a=some o
 |.xd fs=>∃mA,h.Ns1 a mA/\∀f,Qxz (fs.lookup f) (mA f)
 |.rng lo hi=>∃t u v,h.get? a=some { cls:=.type "range",data:=.fields #[.int lo t,.int hi u,.int 1 v] }
 |.frz o u=>h.get? a=some o/\ObjOk H h a u
 |.tbl ps=>h.get? a=some { cls:=.none,data:=.fields ps }
 |.met f x=>h.get? a=some (PySem.W.methodObj (.ref f) (.ref x))
 |.ext φ=>φ h/\(∃o,h.get? a=some o)/\∀h1 h2:JR,φ h1->(∀o,h1.get? a=some o->h2.get? a=some o)->φ h2
def HOk(H:Hp)(h:JR):Prop:=∀a o,H a=some o->ObjOk P w H h a o
end
section
variable{P:Qz}{w:Jf}{H H':Hp}{h h':JR}{a:Addr}{o:HO}
theorem ObjOk.lt(x:ObjOk P w H h a o):a<h.objs.size:=by
 cases o with
 |lst xs=>obtain⟨_,_,_,_,e⟩:=x;exact Qk e
 |tup xs=>obtain⟨_,_,_,p⟩:=x;exact p.lt
 |dK kvs=>obtain⟨_,_,_,_,o,_,_,e,_⟩:=x;exact Qk e
 |dT kvs=>obtain⟨_,_,_,_,o,_,_,e,_⟩:=x;exact Qk e
 |set S n=>obtain⟨o,_,_,_,e,_⟩:=x;exact Qk e
 |ins C dx fs=>obtain⟨_,_,_,e,_⟩:=x;exact Qk e
 |own y=>obtain⟨_,e⟩:=x;exact Qk e
 |xd fs=>obtain⟨_,⟨_,_,_,e,_⟩,_⟩:=x;exact Qk e
 |rng lo hi=>obtain⟨_,_,_,e⟩:=x;exact Qk e
 |frz ob u=>obtain⟨e,_⟩:=x;exact Qk e
 |tbl ps=>exact Qk (show h.get? a=some _ from x)
 |met f y=>exact Qk (show h.get? a=some _ from x)
 |ext φ=>obtain⟨_,⟨_,e⟩,_⟩:=x;exact Qk e
theorem Qap.mapP{α β:Type}{F G:α->β->Prop}:∀{l₁:List α}{l₂:List β},Qap F l₁ l₂->(∀a b,F a b->G a b)->Qap G l₁ l₂
 |_,_,.nil,_=>.nil
 |_,_,.cons r t,f=>.cons (f _ _ r) (Qap.mapP t f)
theorem ObjOk.stay(x:ObjOk P w H h a o)(k:∀b u,(b=a∨H b=some (.own a))->h.get? b=some u->h'.get? b=some u)
  (ho:∀b,H b=some (.own a)->H' b=some (.own a))(ht:∀b xs,H b=some (.tup xs)->H' b=some (.tup xs)):ObjOk P w H' h' a o:=by
 induction o with
 |lst xs=>obtain⟨z,its,n,r,e⟩:=x;exact⟨z,its,n,r,k _ _ (.inl rfl) e⟩
 |tup xs=>obtain⟨z,its,r,ob,e,c⟩:=x;exact⟨z,its,r,ob,k _ _ (.inl rfl) e,c⟩
 |dK kvs=>obtain⟨z,y,vs,r,ob,es,ep,e,c⟩:=x;exact⟨z,y,vs,r,ob,es,ep,k _ _ (.inl rfl) e,c⟩
 |dT kvs=>
  obtain⟨z,y,xs,r,ob,es,ep,e,c⟩:=x;exact⟨z,y,xs,Qap.mapP r λp q z=>⟨z.1,ht _ _ z.2.1,z.2.2⟩,ob,es,ep,k _ _ (.inl rfl) e,c⟩
 |set S n=>obtain⟨ob,es,ep,t,e,c⟩:=x;exact⟨ob,es,ep,t,k _ _ (.inl rfl) e,c⟩
 |ins C dx fs=>
  obtain⟨d,z,ne,e,mA,⟨od,es,ep,e2,c⟩,r⟩:=x;exact⟨ho _ d,z,ne,k _ _ (.inl rfl) e,mA,⟨od,es,ep,k _ _ (.inr d) e2,c⟩,r⟩
 |own y=>obtain⟨ob,e⟩:=x;exact⟨ob,k _ _ (.inl rfl) e⟩
 |xd fs=>obtain⟨mA,⟨od,es,ep,e,c⟩,r⟩:=x;exact⟨mA,⟨od,es,ep,k _ _ (.inl rfl) e,c⟩,r⟩
 |rng lo hi=>obtain⟨t,u,v,e⟩:=x;exact⟨t,u,v,k _ _ (.inl rfl) e⟩
 |frz ob u ih=>obtain⟨e,q⟩:=x;exact⟨k _ _ (.inl rfl) e,ih q⟩
 |tbl ps=>
  have e:h.get? a=some { cls:=.none,data:=.fields ps }:=x;show h'.get? a=some { cls:=.none,data:=.fields ps };exact k a _ (.inl rfl) e
 |met f y=>
  have e:h.get? a=some (PySem.W.methodObj (.ref f) (.ref y)):=x;show h'.get? a=some (PySem.W.methodObj (.ref f) (.ref y));exact k a _ (.inl rfl) e
 |ext φ=>obtain⟨p,⟨o,e⟩,st⟩:=x;exact⟨st _ _ p λo q=>k _ _ (.inl rfl) q,⟨o,k _ _ (.inl rfl) e⟩,st⟩
theorem HOk.lt(x:HOk P w H h)(e:H a=some o):a<h.objs.size:=(x a o e).lt
theorem HOk.fresh(x:HOk P w H h)(e:h.objs.size<=a):H a=none:=by
 cases q:H a with
 |none=>rfl
 |some u=>exact absurd (QH (x.lt q) e) (ZF _)
theorem HOk.kept(x:HOk P w H h)(k:∀b u,h.get? b=some u->h'.get? b=some u):HOk P w H h':=λa o e=>
 (x a o e).stay (λb u _ q=>k b u q) (λ_ q=>q) λ_ _ q=>q
theorem HOk.laid(x:HOk P w H h)(k:∀b u,h.get? b=some u->h'.get? b=some u)(hp:h.objs.size<=a)(new:ObjOk P w (upd H a o) h' a o):HOk P w (upd H a o) h':=λb u e=>by
 have hn:=x.fresh hp;by_cases hb:b=a
 ·subst hb;rw[Jh] at e;cases e;exact new
 ·rw[JC hb] at e;exact(x b u e).stay (λc v _ q=>k c v q) (λc q=>by rw[JC (J4 q hn)];exact q) λc xs q=>by rw[JC (J4 q hn)];exact q
end
def Rd(H:Hp)(a:Addr)(u:HO):Prop:=H a=some u∨∃o,H a=some (.frz o u)
theorem Rd.ok{P:Qz}{w:Jf}{H:Hp}{h:JR}{a:Addr}{u:HO}(r:Rd H a u)(x:HOk P w H h):ObjOk P w H h a u:=by
 rcases r with r | ⟨o,r⟩
 ·exact x a u r
 ·obtain⟨_,q⟩:=x a _ r;exact q
def Mut:Option HO->Prop
 |some (.lst _)=>True
 |some (.dK _)=>True
 |some (.dT _)=>True
 |some (.set _ _)=>True
 |some (.ins _ _ _)=>True
 |some (.ext _)=>True
 |_=>False
section
variable{P:Qz}{w:Jf}{H:Hp}{h h':JR}{x e:Addr}{o':HO}
theorem HOk.write(ok:HOk P w H h)(mu:Mut (H x))(he:e=x∨H e=some (.own x))(k:∀b u,b≠e->h.get? b=some u->h'.get? b=some u)(heo:∃u,h'.get? e=some u)
  (new:ObjOk P w (upd H x o') h' x o'):HOk P w (upd H x o') h':=λb u q=>by
 have nown:∀c y,H c=some (.own y)->c≠x:=λc y r z=>by subst z;rw[r] at mu;exact mu
 have ntup:∀c xs,H c=some (.tup xs)->c≠x:=λc xs r z=>by subst z;rw[r] at mu;exact mu
 by_cases hb:b=x
 ·subst hb;rw[Jh] at q;cases q;exact new
 ·rw[JC hb] at q;by_cases hbe:b=e
  ·have q':H b=some (.own x):=by
    rcases he with z | z
    ·exact absurd (hbe.trans z) hb
    ·rw[hbe];exact z
   rw[q] at q';cases q';obtain⟨v,hv⟩:=heo;exact⟨v,by rw[hbe];exact hv⟩
  ·refine(ok b u q).stay (λc v hc r=>k c v ?_ r) (λc r=>by rw[JC (nown c b r)];exact r) λc xs r=>by rw[JC (ntup c xs r)];exact r
   rcases hc with rfl | hc
   ·exact hbe
   ·rintro rfl;rcases he with z | z
    ·exact nown c b hc z
    ·rw[hc] at z;cases z;exact hb rfl
end
structure Un (fs ex:List Addr) (H H':Hp) (h h':JR):Prop where
 keep:∀b o,h.get? b=some o->H b=none->b∉fs->b∉ex->h'.get? b=some o
 slot:∀b o,h.get? b=some o->H b=none->b∈fs->b∉ex->∃sl,h'.get? b=some { o with slots:=sl }
 free:∀b o,h.get? b=some o->H b=none->b∉ex->H' b=none
 there:∀b o,h.get? b=some o->b∉ex->∃o',h'.get? b=some o'
 tups:∀b xs,H b=some (.tup xs)->H' b=some (.tup xs)
 frzs:∀b o u,H b=some (.frz o u)->H' b=some (.frz o u)
 tbls:∀b ps,H b=some (.tbl ps)->∃more,H' b=some (.tbl (ps++more))
section
variable{fs fs' ex ex':List Addr}{H H1 H2:Hp}{h h1 h2 h':JR}{a x e:Addr}{o:HO}
theorem Un.any(u:Un fs ex H H1 h h1){b:Addr}{ob:Obj}(q:h.get? b=some ob)(n:H b=none)(hx:b∉ex):∃sl,h1.get? b=some { ob with slots:=sl }:=by
 by_cases hb:b∈fs
 ·exact u.slot b ob q n hb hx
 ·exact⟨ob.slots,u.keep b ob q n hb hx⟩
theorem Un.kept(k:∀b u,h.get? b=some u->h'.get? b=some u):Un fs ex H H h h':=
 ⟨λb ob q _ _ _=>k b ob q,λb ob q _ _ _=>⟨ob.slots,k b ob q⟩,λ_ _ _ n _=>n,λb ob q _=>⟨ob,k b ob q⟩,λ_ _ q=>q,λ_ _ _ q=>q,λ_ ps q=>⟨#[],by rw[q];simp⟩⟩
theorem Un.refl:Un fs ex H H h h:=Un.kept λ_ _ q=>q
theorem Un.laid(k:∀b u,h.get? b=some u->h'.get? b=some u)(hp:h.objs.size<=a)(hn:H a=none):Un fs ex H (upd H a o) h h' where
 keep:=λb u q _ _ _=>k b u q
 slot:=λb u q _ _ _=>⟨u.slots,k b u q⟩
 free:=λb u q n _=>by rw[JC (QC (QH (Qk q) hp))];exact n
 there:=λb u q _=>⟨u,k b u q⟩
 tups:=λb xs q=>by rw[JC (J4 q hn)];exact q
 frzs:=λb u xs q=>by rw[JC (J4 q hn)];exact q
 tbls:=λb ps q=>⟨#[],by rw[JC (J4 q hn),q];simp⟩
theorem Un.write(mu:Mut (H x))(he:e=x∨H e=some (.own x))(k:∀b u,b≠e->h.get? b=some u->h'.get? b=some u)(heo:∃u,h'.get? e=some u):Un fs ex H (upd H x o) h h':=by
 have hx:∀b,H b=none->b≠x:=λb n z=>by subst z;rw[n] at mu;exact mu
 have hb:∀b,H b=none->b≠e:=λb n z=>by
  subst z;rcases he with r | r
  ·exact hx b n r
  ·rw[n] at r;cases r
 have hm:∀b u,H b=some u->¬Mut (some u)->b≠x:=λb u q nm z=>by subst z;rw[q] at mu;exact nm mu
 refine⟨λb u q n _ _=>k b u (hb b n) q,λb u q n _ _=>⟨u.slots,k b u (hb b n) q⟩,λb u q n _=>by rw[JC (hx b n)];exact n,λb u q _=>?_,
  λb xs q=>by rw[JC (hm b _ q λz=>z)];exact q,λb u xs q=>by rw[JC (hm b _ q λz=>z)];exact q,λb ps q=>⟨#[],by rw[JC (hm b _ q λz=>z),q];simp⟩⟩
 by_cases hbe:b=e
 ·subst hbe;exact heo
 ·exact⟨u,k b u hbe q⟩
end
def trk(h:JR)(H:Hp):List Addr:=(Qg h.objs.size).filter λa=>(H a).isSome
def QnN(h:JR)(H:Hp):JR:=PySem.W.hideAll h (trk h H)
theorem Qle(h:JR)(H:Hp):(QnN h H).objs.size=h.objs.size:=PySem.W.hideAll_size _ _
theorem QnM{h:JR}{H:Hp}{b:Addr}{o:Obj}(e:h.get? b=some o)(n:H b=none):(QnN h H).get? b=some o:=
 PySem.W.hideAll_get _ e λhm=>by
  have q:(H b).isSome=true:=(QP.mp hm).2;rw[n] at q;simp at q
theorem QrW{h:JR}{H:Hp}{b:Addr}{o:Obj}(e:(QnN h H).get? b=some o):h.get? b=some o/\H b=none:=by
 have e':h.get? b=some o:=PySem.W.of_hideAll (trk h H) e;refine⟨e',?_⟩;cases q:H b with
 |none=>rfl
 |some x=>
  have hm:b∈trk h H:=QP.mpr ⟨Qw.mpr (Qk e'),by simp[q]⟩;have z:(QnN h H).get? b=none:=PySem.W.hideAll_none (trk h H) hm;rw[z] at e;cases e
def QsH(g h:JR)(L:Addr):List (Addr×Obj):=(Qg h.objs.size).filterMap λa=>if a=L∨(g.get? a).isSome=true then none else(h.get? a).map λo=>(a,o)
def rest(g h:JR)(L d:Addr):List (Addr×Obj):=(QsH g h L).filter λp=>decide (p.1≠d)
structure Mod (K:PySem.W.Frag) (mg:Str->Option Value) (base:JR):Prop where
 kin:K.In base
 glob:base.Ns mainGlobals mg
 blt:∃mb,base.Ns builtinsNs mb/\∀x:Str,x ≠ "__name__" -> mb x=bootBuiltins x
 nolimit:base.NoLimit
structure Cx where
 prog:Qz
 w:Jf
 K:PySem.W.Frag
 mg:Str->Option Value
 base:JR
 A:Jb
 N:List Str
 s₀:Shared
 H₀:Hp
 env:Env
 outer:List Env
 stack:List Env
 ex:List Addr
 fn:Str->Bool
 calm:Bool
 pn:List (Addr×Obj)
 xe:Value->Shared->Prop
def frs(l:List Env):List Addr:=l.filterMap (·.frame)
abbrev Cx.fs (X:Cx):List Addr:=frs X.outer
def Vis(sc:YW)(x:Str):Prop:=sc.names.lookup x=some .local∨sc.names.lookup x=some .cell∨sc.names.lookup x=some .free
def Loc(sc:YW)(x:Str):Prop:=sc.names.lookup x=some .local∨sc.names.lookup x=some .cell
def Look(env:Env)(h:JR)(m:Str->Option Value)(x:Str)(u:Value):Prop:=
 (env.kindOf x=some .local/\m x=some u)∨((env.kindOf x=some .cell∨env.kindOf x=some .free)/\∃c,env.cells.lookup x=some c/\h.IsCell c (some u))
structure Cx.Ok (X:Cx):Prop where
 mod:Mod X.K X.mg X.base
 kind:X.env.scope.kind=.function
 glob:X.env.globals=mainGlobals
 blt:X.env.builtins=builtinsNs
 above:X.s₀.heap.objs.size<=X.env.locals
 inj:∀x y c,X.env.cells.lookup x=some c->X.env.cells.lookup y=some c->x=y
 has:∀x,(X.env.kindOf x=some .cell∨X.env.kindOf x=some .free)->∃c,X.env.cells.lookup x=some c
 cab:∀x c,X.fn x=true->X.env.cells.lookup x=some c->X.s₀.heap.objs.size<=c
 hd:X.calm=true->X.A.handled=none
 frames:X.A.frames=some X.stack
 stk:X.stack=X.outer∨(X.stack=X.env::X.outer/\X.env.frame=some X.env.locals)
 exf:∀b∈X.ex,b≠X.env.locals/\∀x c,X.env.cells.lookup x=some c->c≠b
 bs:∀b o,X.base.get? b=some o->X.s₀.heap.get? b=some o/\X.H₀ b=none
 bsz:X.base.objs.size<=X.s₀.heap.objs.size
 noex:∀b o,X.base.get? b=some o->b∉X.ex
 exfs:∀b∈X.ex,b∉X.fs
 funs:X.s₀.heap.FunFrames X.base X.outer
 frf:∀b∈X.fs,X.H₀ b=none
structure Inv (X:Cx) (pins:List (Addr×Obj)) (σ:List (Option V)) (H:Hp) (s:Shared):Prop where
 ok:X.Ok
 os:s.os=X.s₀.os
 bare:QcZ s.gens
 base:Un X.fs X.ex X.H₀ H X.s₀.heap s.heap
 loc:∃m,s.heap.Ns X.env.locals m/\∀(i:Nat)(x:Str)(v:V),X.N[i]? = some x->σ[i]? = some (some v)->Vis X.env.scope x->∃u,RelV v u/\Look X.env s.heap m x u
 cell:∀x c,X.env.cells.lookup x=some c->∃v,s.heap.IsCell c v
 free:H X.env.locals=none
 freeC:∀x c,X.env.cells.lookup x=some c->H c=none
 pin:∀p∈X.pn++pins,s.heap.get? p.1=some p.2/\H p.1=none/\p.1≠X.env.locals/\p.1∉X.fs/\∀v,p.2.data≠.cell v
 hok:HOk X.prog X.w H s.heap
 len:σ.length=X.N.length
section
variable{X:Cx}{pins:List (Addr×Obj)}{σ:List (Option V)}{H H':Hp}{s:Shared}{h':JR}
theorem Cx.Ok.nofr(ok:X.Ok){b:Addr}{o:Obj}(e:X.base.get? b=some o):b∉X.fs:=λhb=>by
 have:=(ok.funs.mem hb).1;rw[e] at this;cases this
theorem Inv.bs(I:Inv X pins σ H s):∀b o,X.base.get? b=some o->s.heap.get? b=some o/\H b=none:=λb o e=>
 ⟨I.base.keep b o (I.ok.bs b o e).1 (I.ok.bs b o e).2 (I.ok.nofr e) (I.ok.noex b o e),I.base.free b o (I.ok.bs b o e).1 (I.ok.bs b o e).2 (I.ok.noex b o e)⟩
theorem Inv.bk(I:Inv X pins σ H s):∀b o,X.base.get? b=some o->s.heap.get? b=some o:=λb o e=>(I.bs b o e).1
theorem Inv.mod(I:Inv X pins σ H s):Mod X.K X.mg X.base:=I.ok.mod
theorem Inv.kIn(I:Inv X pins σ H s):X.K.In s.heap:=I.ok.mod.kin.keeps I.bk
theorem Inv.fr(I:Inv X pins σ H s):∃m,Fr X.base X.env.locals s.heap m:=
 let ⟨m,hn,_⟩:=I.loc
 ⟨m,hn,I.bk,QJ I.ok.bsz I.ok.above⟩
theorem Inv.lt(I:Inv X pins σ H s):X.env.locals<s.heap.objs.size:=let ⟨_,hn,_⟩:=I.loc;hn.lt
theorem Inv.sz(I:Inv X pins σ H s):X.s₀.heap.objs.size<=s.heap.objs.size:=QJ I.ok.above (Ju I.lt)
theorem Inv.nofs(I:Inv X pins σ H s){a:Addr}(h:s.heap.objs.size<=a):a∉X.fs:=λhb=>by
 obtain⟨_,o,ho,_⟩:=I.ok.funs.mem hb;exact absurd (QH (Qk ho) (QJ I.sz h)) (ZF _)
theorem Inv.cne(I:Inv X pins σ H s):∀x c,X.env.cells.lookup x=some c->c≠X.env.locals:=λx c e z=>by
 obtain⟨v,o,ho,hd⟩:=I.cell x c e;obtain⟨m,⟨o',es,ep,ho',hd',_⟩,_⟩:=I.loc;rw[z,ho'] at ho;cases ho;rw[hd'] at hd;cases hd
theorem Inv.funs(I:Inv X pins σ H s):s.heap.FunFrames X.base X.outer:=by
 have all:∀(l:List Env),(∀b∈frs l,b∈X.fs)->X.s₀.heap.FunFrames X.base l->s.heap.FunFrames X.base l:=by
  intro l;induction l with
  |nil=>intro _ _;trivial
  |cons env r ih=>
   intro hs hl;obtain⟨hk,⟨L,o,hf,hn,ho,hd⟩,hr⟩:=hl;have hL:L∈X.fs:=hs L (by unfold frs;rw[Zh,hf];exact QV);obtain⟨sl,e⟩:=I.base.slot L o ho (I.ok.frf L hL) hL λz=>I.ok.exfs L z hL
   exact⟨hk,⟨L,_,hf,hn,e,hd⟩,ih (λb hb=>hs b (by unfold frs;rw[Zh,hf];exact Q0 _ hb)) hr⟩
 exact all X.outer (λ_ hb=>hb) I.ok.funs
theorem Inv.stack(I:Inv X pins σ H s):s.heap.FunFrames X.base X.stack:=by
 rcases I.ok.stk with e | ⟨e,hf⟩
 ·rw[e];exact I.funs
 ·rw[e];obtain⟨m,hn,_⟩:=I.loc;refine .cons (by rw[I.ok.kind];decide) hf hn ?_ I.funs
  exact Heap.get?_none_of_le (QJ I.ok.bsz I.ok.above)
theorem Inv.stkSub(I:Inv X pins σ H s):∀b∈frs X.stack,b∈X.env.locals::X.fs:=λb hb=>by
 rcases I.ok.stk with e | ⟨e,hf⟩
 ·rw[e] at hb;exact Q0 _ hb
 ·rw[e] at hb;unfold frs at hb;rw[Zh,hf] at hb;exact hb
theorem Inv.stkFree(I:Inv X pins σ H s):∀b∈frs X.stack,H b=none:=λb hb=>by
 rcases Qq.mp (I.stkSub b hb) with e | hb
 ·rw[e];exact I.free
 ·obtain⟨_,o,ho,_⟩:=I.ok.funs.mem hb;exact I.base.free b o ho (I.ok.frf b hb) λz=>I.ok.exfs b z hb
theorem Inv.step{g':Array GenState}{t':Nat}{d':Drawn}{ch:List Addr}(I:Inv X pins σ H s)
  (hch:∀b∈ch,(b∈X.ex∨X.s₀.heap.objs.size<=b)/\b≠X.env.locals/\(∀x c,X.env.cells.lookup x=some c->c≠b)/\∀p∈X.pn++pins,p.1≠b)
  (keep:∀b o,b≠X.env.locals->b∉X.fs->b∉ch->s.heap.get? b=some o->H b=none->h'.get? b=some o)
  (slot:∀b o,b≠X.env.locals->b∈X.fs->b∉ch->s.heap.get? b=some o->H b=none->∃sl,h'.get? b=some { o with slots:=sl })(free:∀b o,b∉ch->s.heap.get? b=some o->H b=none->H' b=none)
  (there:∀b o,b∉ch->s.heap.get? b=some o->∃o',h'.get? b=some o')
  (tups:∀b xs,H b=some (.tup xs)->H' b=some (.tup xs))(frzs:∀b o u,H b=some (.frz o u)->H' b=some (.frz o u))(tbls:∀b ps,H b=some (.tbl ps)->∃more,H' b=some (.tbl (ps++more)))
  (ns:∀m,s.heap.Ns X.env.locals m->h'.Ns X.env.locals m)(hok:HOk X.prog X.w H' h')(hg:QcZ g') :
  Inv X pins σ H' { s with heap:=h',gens:=g',drawn:=d',toks:=t' }:=by
 have neL:∀b o,X.s₀.heap.get? b=some o->b≠X.env.locals:=λb o e=>QC (QH (Qk e) I.ok.above)
 have neC:∀b o,X.s₀.heap.get? b=some o->b∉X.ex->b∉ch:=λb o e hx hb=>by
  rcases(hch b hb).1 with z | z
  ·exact hx z
  ·exact absurd (QH (Qk e) z) (ZF _)
 have cellK:∀x c,X.env.cells.lookup x=some c->∀v,s.heap.IsCell c v->h'.IsCell c v:=λx c e v ⟨o,ho,hd⟩=>by
  have nch:c∉ch:=λz=>(hch c z).2.2.1 x c e rfl
  by_cases hc:c∈X.fs
  ·obtain⟨sl,q⟩:=slot c o (I.cne x c e) hc nch ho (I.freeC x c e);exact⟨_,q,hd⟩
  ·exact⟨o,keep c o (I.cne x c e) hc nch ho (I.freeC x c e),hd⟩
 refine⟨I.ok,I.os,hg,⟨λb o e n hb hx=>?_,λb o e n hb hx=>?_,λb o e n hx=>?_,λb o e hx=>?_,λb xs e=>tups b xs (I.base.tups b xs e),λb o xs e=>frzs b o xs (I.base.frzs b o xs e),λb ps e=>?_⟩,?_,λx c e=>?_,?_,λx c e=>?_,λp hp=>?_,hok,I.len⟩
 ·exact keep b o (neL b o e) hb (neC b o e hx) (I.base.keep b o e n hb hx) (I.base.free b o e n hx)
 ·obtain⟨sl,e1⟩:=I.base.slot b o e n hb hx;obtain⟨sl',e2⟩:=slot b _ (neL b o e) hb (neC b o e hx) e1 (I.base.free b o e n hx);exact⟨sl',e2⟩
 ·obtain⟨o',e1⟩:=I.base.there b o e hx;exact free b o' (neC b o e hx) e1 (I.base.free b o e n hx)
 ·obtain⟨o',e1⟩:=I.base.there b o e hx;exact there b o' (neC b o e hx) e1
 ·obtain⟨m1,e1⟩:=I.base.tbls b ps e;obtain⟨m2,e2⟩:=tbls b _ e1;exact⟨m1++m2,by rw[e2,Array.append_assoc]⟩
 ·obtain⟨m,hn,hl⟩:=I.loc;refine⟨m,ns m hn,λi x v e1 e2 e3=>?_⟩;obtain⟨u,r,l⟩:=hl i x v e1 e2 e3;refine⟨u,r,?_⟩;rcases l with l | ⟨k,c,e,z⟩
  ·exact .inl l
  ·exact .inr ⟨k,c,e,cellK x c e _ z⟩
 ·obtain⟨v,z⟩:=I.cell x c e;exact⟨v,cellK x c e v z⟩
 ·obtain⟨m,⟨o,_,_,ho,_⟩,_⟩:=I.loc;exact free _ o (λz=>(hch _ z).2.1 rfl) ho I.free
 ·obtain⟨v,o,ho,hd⟩:=I.cell x c e;exact free c o (λz=>(hch c z).2.2.1 x c e rfl) ho (I.freeC x c e)
 ·obtain⟨e,n,ne,nf,d⟩:=I.pin p hp;have nch:p.1∉ch:=λz=>(hch p.1 z).2.2.2 p hp rfl
  exact⟨keep p.1 p.2 ne nf nch e n,free p.1 p.2 nch e n,ne,nf,d⟩
theorem Inv.un{t':Nat}(I:Inv X pins σ H s)(u:Un X.fs [] H H' s.heap h')(hok:HOk X.prog X.w H' h'):Inv X pins σ H' { s with heap:=h',toks:=t' }:=by
 obtain⟨m,⟨o,es,ep,ho,r⟩,_⟩:=id I.loc;obtain⟨sl,hL⟩:=u.any ho I.free (by simp);exact I.step (g':=s.gens) (d':=s.drawn) (ch:=[]) (λ_ z=>nomatch z) (λb o _ hb _ e n=>u.keep b o e n hb (by simp)) (λb o _ hb _ e n=>u.slot b o e n hb (by simp)) (λb o _ e n=>u.free b o e n (by simp)) (λb o _ e=>u.there b o e (by simp)) u.tups u.frzs u.tbls (λm' hm=>by
  obtain⟨o',es',ep',ho',r'⟩:=hm;rw[ho] at ho';cases ho';exact⟨_,es',ep',hL,r'⟩) hok I.bare
theorem Inv.call{g':Array GenState}{t':Nat}{d':Drawn}{ch:List Addr}(I:Inv X pins σ H s)(u:Un (frs X.stack) ch H H' s.heap h')(hok:HOk X.prog X.w H' h')(hg:QcZ g')
  (hch:∀b∈ch,(b∈X.ex∨X.s₀.heap.objs.size<=b)/\b≠X.env.locals/\(∀x c,X.env.cells.lookup x=some c->c≠b)/\∀p∈X.pn++pins,p.1≠b) :
  Inv X pins σ H' { s with heap:=h',gens:=g',drawn:=d',toks:=t' }:=by
 obtain⟨m,⟨o,es,ep,ho,r⟩,_⟩:=id I.loc;obtain⟨sl,hL⟩:=u.any ho I.free λz=>(hch _ z).2.1 rfl
 exact I.step (ch:=ch) hch (λb o hL hb hc e n=>u.keep b o e n (λz=>(Qq.mp (I.stkSub b z)).elim hL hb) hc) (λb o _ _ hc e n=>u.any e n hc) (λb o hc e n=>u.free b o e n hc) (λb o hc e=>u.there b o e hc) u.tups u.frzs u.tbls (λm' hm=>by
  obtain⟨o',es',ep',ho',r'⟩:=hm;rw[ho] at ho';cases ho';exact⟨_,es',ep',hL,r'⟩) hok hg
theorem Inv.turned{t':Nat}{it:Addr}(I:Inv X pins σ H s)(k:∀b o,b≠it->s.heap.get? b=some o->h'.get? b=some o)(hn:H it=none)(hL:it≠X.env.locals)
  (h1:it∈X.ex∨X.s₀.heap.objs.size<=it)(h2:∀x c,X.env.cells.lookup x=some c->c≠it)(h3:∀p∈X.pn++pins,p.1≠it):Inv X pins σ H { s with heap:=h',toks:=t' }:=by
 have nit:∀b u,H b=some u->b≠it:=λb u e z=>by rw[z,hn] at e;cases e
 refine I.step (g':=s.gens) (d':=s.drawn) (ch:=[it]) (λb hb=>?_) (λb o _ _ hc e _=>k b o (λz=>hc (by simp[z])) e) (λb o _ _ hc e _=>⟨o.slots,k b o (λz=>hc (by simp[z])) e⟩) (λ_ _ _ _ n=>n)
  (λb o hc e=>⟨o,k b o (λz=>hc (by simp[z])) e⟩) (λ_ _ e=>e) (λ_ _ _ e=>e) (λb ps e=>⟨#[],by rw[e];simp⟩) (λm hm=>?_) (λb u e=>?_) I.bare
 ·have e:b=it:=by simpa using hb
  subst e;exact⟨h1,hL,h2,h3⟩
 ·obtain⟨o,es,ep,ho,r⟩:=hm;exact⟨o,es,ep,k _ o (Qa9 hL) ho,r⟩
 ·refine(I.hok b u e).stay (λc v hc q=>k c v ?_ q) (λ_ q=>q) λ_ _ q=>q
  rcases hc with z | z
  ·rw[z];exact nit b u e
  ·exact nit c _ z
theorem Inv.tok(I:Inv X pins σ H s)(t:Nat):Inv X pins σ H { s with toks:=t }:=I.un (h':=s.heap) (t':=t) Un.refl I.hok
theorem Inv.kept{t':Nat}(I:Inv X pins σ H s)(k:∀b u,s.heap.get? b=some u->h'.get? b=some u):Inv X pins σ H { s with heap:=h',toks:=t' }:=I.un (Un.kept k) (I.hok.kept k)
theorem Inv.laid{a:Addr}{o:HO}{t':Nat}(I:Inv X pins σ H s)(k:∀b u,s.heap.get? b=some u->h'.get? b=some u)(hp:s.heap.objs.size<=a)(new:ObjOk X.prog X.w (upd H a o) h' a o) :
  Inv X pins σ (upd H a o) { s with heap:=h',toks:=t' }:=I.un (Un.laid k hp (I.hok.fresh hp)) (I.hok.laid k hp new)
theorem Inv.write{x e:Addr}{o:HO}{t':Nat}(I:Inv X pins σ H s)(mu:Mut (H x))(he:e=x∨H e=some (.own x))(k:∀b u,b≠e->s.heap.get? b=some u->h'.get? b=some u)(heo:∃u,h'.get? e=some u)
  (new:ObjOk X.prog X.w (upd H x o) h' x o):Inv X pins σ (upd H x o) { s with heap:=h',toks:=t' }:=I.un (Un.write mu he k heo) (I.hok.write mu he k heo new)
theorem Inv.weak{σ':List (Option V)}(I:Inv X pins σ H s)(hl:σ'.length=σ.length)(w:∀(i:Nat) v,σ'[i]? = some (some v)->σ[i]? = some (some v)):Inv X pins σ' H s:=
 ⟨I.ok,I.os,I.bare,I.base,let ⟨m,hn,hl'⟩:=I.loc;⟨m,hn,λi x v e1 e2 e3=>hl' i x v e1 (w i v e2) e3⟩,I.cell,I.free,I.freeC,I.pin,I.hok,hl.trans I.len⟩
theorem Inv.pins_of{pins':List (Addr×Obj)}(I:Inv X pins σ H s)(h:∀p∈pins',s.heap.get? p.1=some p.2/\H p.1=none/\p.1≠X.env.locals/\p.1∉X.fs/\∀v,p.2.data≠.cell v):Inv X pins' σ H s:=
 ⟨I.ok,I.os,I.bare,I.base,I.loc,I.cell,I.free,I.freeC,λp hp=>(Ys.mp hp).elim (λz=>I.pin p (Qcp _ z)) (h p),I.hok,I.len⟩
theorem Qh8{N:List Str}(hN:N.Nodup){i j:Nat}{x:Str}(a:N[i]? = some x)(b:N[j]? = some x):i=j:=by
 obtain⟨h1,e1⟩:=Jm.mp a;obtain⟨h2,e2⟩:=Jm.mp b;exact(Qps hN).mp (e1.trans e2.symm)
theorem QfU{M:Qs4}{A:Jb}{E:Value->Shared->Prop}{i:Nat}{x:Str}{v:V}{u:Value}{Q:Unit->Shared->Prop}(I:Inv X pins σ H s)(hN:X.N.Nodup)(hi:X.N[i]? = some x)(hx:Loc X.env.scope x)(r:RelV v u)
  (h:∀s',Inv X pins (σ.set i (some v)) H s'->(∃a,QbY a s.heap s'.heap/\(a=X.env.locals∨X.env.cells.lookup x=some a))->Q () s')(hf:X.fn x=true∨X.env.scope.names.lookup x=some .local:=by first | exact .inl rfl | exact .inr rfl | assumption):wpAny M A (storeName X.env x u) Q E s:=by
 obtain⟨m,hn,hl⟩:=id I.loc;have hcls:(X.env.scope.kind == .class||(X.env.scope.kind == .module&&X.env.locals != X.env.globals))=false:=by rw[I.ok.kind];rfl
 have hiσ:i < σ.length:=by rw[I.len];exact(Jm.mp hi).1
 have cne:=I.cne;have tracked:∀{a:Addr}{h':JR},(∃o,s.heap.get? a=some o/\H a=none)->QbY a s.heap h'->HOk X.prog X.w H h':=λ{a h'} ha hs b ob e=>by
  obtain⟨_,_,hfree⟩:=ha;refine(I.hok b ob e).stay (λc w' hc q=>(hs.2 c ?_).trans q) (λ_ q=>q) λ_ _ q=>q
  rintro rfl;rcases hc with rfl | hc
  ·rw[hfree] at e;cases e
  ·rw[hfree] at hc;cases hc
 rcases hx with hk | hk
 ·refine wpAny_storeName_local hk hn (λh' hn' hs=>?_) hcls;obtain⟨oL,_,_,hoL,_⟩:=id hn;refine h _ ⟨I.ok,I.os,I.bare,⟨λb o e n hb hx=>?_,λb o e n hb hx=>?_,I.base.free,λb o e hx=>?_,I.base.tups,I.base.frzs,I.base.tbls⟩,⟨_,hn',λj y v' e1 e2 e3=>?_⟩,λy c e=>?_,I.free,I.freeC,λp hp=>?_,tracked ⟨oL,hoL,I.free⟩ hs,by simpa using I.len⟩ ⟨_,hs,.inl rfl⟩
  ·exact(hs.2 b (QC (QH (Qk e) I.ok.above))).trans (I.base.keep b o e n hb hx)
  ·obtain⟨sl,e1⟩:=I.base.slot b o e n hb hx;exact⟨sl,(hs.2 b (QC (QH (Qk e) I.ok.above))).trans e1⟩
  ·obtain⟨o',e1⟩:=I.base.there b o e hx;exact⟨o',(hs.2 b (QC (QH (Qk e) I.ok.above))).trans e1⟩
  ·by_cases hj:j=i
   ·subst hj;rw[hi] at e1;cases e1;rw[QbG hiσ] at e2;cases e2;exact⟨u,r,.inl ⟨hk,by simp⟩⟩
   ·rw[Qaa (Qa9 hj)] at e2;obtain⟨u',r',q⟩:=hl j y v' e1 e2 e3;refine⟨u',r',?_⟩;rcases q with⟨k,e⟩ | ⟨k,c,e,z⟩
    ·refine .inl ⟨k,?_⟩;have:y≠x:=λe=>hj (Qh8 hN e1 (e ▸ hi))
     simp[this,e]
    ·exact .inr ⟨k,c,e,z.sameBut hs (cne y c e)⟩
  ·obtain⟨w',z⟩:=I.cell y c e;exact⟨w',z.sameBut hs (cne y c e)⟩
  ·obtain⟨e,n,ne,nf,d⟩:=I.pin p hp;exact⟨(hs.2 p.1 ne).trans e,n,ne,nf,d⟩
 ·have hfn:X.fn x=true:=by
   rcases hf with z | z
   ·exact z
   ·rw[z] at hk;cases hk
  obtain⟨c,hc⟩:=I.ok.has x (.inl hk);obtain⟨w',z⟩:=I.cell x c hc;refine wpAny_storeName_cell I.ok.kind hk hc z (λh' hc' hs=>?_);obtain⟨oc,hoc,hocd⟩:=id z;refine h { s with heap:=h' } ⟨I.ok,I.os,I.bare,⟨λb o e n hb hx=>?_,λb o e n hb hx=>?_,I.base.free,λb o e hx=>?_,I.base.tups,I.base.frzs,I.base.tbls⟩,⟨m,hn.sameBut hs (Qa9 (cne x c hc)),λj y v' e1 e2 e3=>?_⟩,λy c' e=>?_,I.free,I.freeC,λp hp=>?_,tracked ⟨oc,hoc,I.freeC x c hc⟩ hs,by simpa using I.len⟩ ⟨c,hs,.inr hc⟩
  ·exact(hs.2 b (QC (QH (Qk e) (I.ok.cab x c hfn hc)))).trans (I.base.keep b o e n hb hx)
  ·obtain⟨sl,e1⟩:=I.base.slot b o e n hb hx;exact⟨sl,(hs.2 b (QC (QH (Qk e) (I.ok.cab x c hfn hc)))).trans e1⟩
  ·obtain⟨o',e1⟩:=I.base.there b o e hx;exact⟨o',(hs.2 b (QC (QH (Qk e) (I.ok.cab x c hfn hc)))).trans e1⟩
  ·by_cases hj:j=i
   ·subst hj;rw[hi] at e1;cases e1;rw[QbG hiσ] at e2;cases e2;exact⟨u,r,.inr ⟨.inl hk,c,hc,hc'⟩⟩
   ·rw[Qaa (Qa9 hj)] at e2;obtain⟨u',r',q⟩:=hl j y v' e1 e2 e3;refine⟨u',r',?_⟩;rcases q with q | ⟨k,c',e,z'⟩
    ·exact .inl q
    ·refine .inr ⟨k,c',e,z'.sameBut hs ?_⟩;rintro rfl;exact hj (Qh8 hN e1 (I.ok.inj _ _ _ e hc ▸ hi))
  ·by_cases hcc:c'=c
   ·subst hcc;exact⟨_,hc'⟩
   ·obtain⟨w2,z2⟩:=I.cell y c' e;exact⟨w2,z2.sameBut hs hcc⟩
  ·obtain⟨e,n,ne,nf,d⟩:=I.pin p hp;refine⟨(hs.2 p.1 ?_).trans e,n,ne,nf,d⟩;intro q;rw[q,hoc] at e;have q':oc=p.2:=Qy e;exact d w' (by rw[<- q'];exact hocd)
theorem QaJ{M:Qs4}{A:Jb}{E:Value->Shared->Prop}{i:Nat}{x:Str}{v:V}{u:Value}{Q:Unit->Shared->Prop}(I:Inv X pins σ H s)(hN:X.N.Nodup)(hi:X.N[i]? = some x)(hx:Loc X.env.scope x)(r:RelV v u)
  (h:∀s',Inv X pins (σ.set i (some v)) H s'->Q () s')(hf:X.fn x=true∨X.env.scope.names.lookup x=some .local:=by first | exact .inl rfl | exact .inr rfl | assumption):wpAny M A (storeName X.env x u) Q E s:=
 QfU I hN hi hx r (λs' I' _=>h s' I') hf
theorem Inv.call'{s':Shared}{ch:List Addr}(I:Inv X pins σ H s)(ho:s'.os=s.os)(u:Un (frs X.stack) ch H H' s.heap s'.heap)(hok:HOk X.prog X.w H' s'.heap)(hg:QcZ s'.gens)
  (hch:∀b∈ch,(b∈X.ex∨X.s₀.heap.objs.size<=b)/\b≠X.env.locals/\(∀x c,X.env.cells.lookup x=some c->c≠b)/\∀p∈X.pn++pins,p.1≠b):Inv X pins σ H' s':=by
 obtain⟨h',g',d',t',o'⟩:=s';have e:o'=s.os:=ho;subst e;exact I.call (g':=g') (t':=t') (d':=d') u hok hg hch
end
abbrev XK:=Value->Option Addr->Hp->Prop
abbrev St:=List (Option V)
abbrev VK:=V->Hp->Prop
abbrev TE:=St->Hp->VK->Prop
abbrev TT:=St->Hp->(Bool->Hp->Prop)->Prop
abbrev TA:=St->Hp->(List V->Hp->Prop)->Prop
structure Ends where
 nx:St->Hp->Prop
 rt:VK
 bk:St->Hp->Prop:=λ_ _=>False
 ct:St->Hp->Prop:=λ_ _=>False
abbrev TS:=Ends->St->Hp->Prop
def EP(X:Cx)(pins:List (Addr×Obj))(σ:St)(Q:VK)(u:Value)(s':Shared):Prop:=∃v H',Inv X pins σ H' s'/\RelV v u/\Q v H'
def TP(X:Cx)(pins:List (Addr×Obj))(σ:St)(Q:Bool->Hp->Prop)(b:Bool)(s':Shared):Prop:=∃H',Inv X pins σ H' s'/\Q b H'
def AP(X:Cx)(pins:List (Addr×Obj))(σ:St)(Q:List V->Hp->Prop)(us:List Value)(s':Shared):Prop:=∃vs H',Inv X pins σ H' s'/\Vals vs us/\Q vs H'
def SP(X:Cx)(pins:List (Addr×Obj))(D:Ends)(f:Flow)(s':Shared):Prop:=
 match f with
 |.next=>∃σ' H',Inv X pins σ' H' s'/\D.nx σ' H'
 |.brk=>∃σ' H',Inv X pins σ' H' s'/\D.bk σ' H'
 |.cont=>∃σ' H',Inv X pins σ' H' s'/\D.ct σ' H'
 |.ret u=>∃v σ' H',Inv X pins σ' H' s'/\RelV v u/\D.rt v H'
def PE(X:Cx)(e:QR)(t:TE):Prop:=
 ∀(pins:List (Addr×Obj))(s:Shared)(σ:St)(H:Hp)(Q:VK),Inv X pins σ H s->t σ H Q->wpAny (model X.prog X.w) X.A (eval e X.env) (EP X pins σ Q) X.xe s
def PT(X:Cx)(e:QR)(t:TT):Prop:=
 ∀(pins:List (Addr×Obj))(s:Shared)(σ:St)(H:Hp)(Q:Bool->Hp->Prop),Inv X pins σ H s->t σ H Q->wpAny (model X.prog X.w) X.A (isTrue e X.env (eval e X.env)) (TP X pins σ Q) X.xe s
def PW(X:Cx)(e:QR)(t:TT):Prop:=
 ∀(whole:Sem Value)(pins:List (Addr×Obj))(s:Shared)(σ:St)(H:Hp)(Q:Bool->Hp->Prop),Inv X pins σ H s->t σ H Q->wpAny (model X.prog X.w) X.A (isTrue e X.env whole) (TP X pins σ Q) X.xe s
theorem PW.pt{X:Cx}{e:QR}{t:TT}(h:PW X e t):PT X e t:=h _
def PA(X:Cx)(es:List QR)(t:TA):Prop:=
 ∀(pos:Pos)(pins:List (Addr×Obj))(s:Shared)(σ:St)(H:Hp)(Q:List V->Hp->Prop),Inv X pins σ H s->t σ H Q->wpAny (model X.prog X.w) X.A (spliced (backTo pos (starEach es X.env))) (AP X pins σ Q) X.xe s
def PS(X:Cx)(st:ZG)(t:TS):Prop:=
 ∀(pins:List (Addr×Obj))(s:Shared)(σ:St)(H:Hp)(D:Ends),Inv X pins σ H s->t D σ H->wpAny (model X.prog X.w) X.A (exec st X.env) (SP X pins D) X.xe s
def PSs(X:Cx)(st:List ZG)(t:TS):Prop:=
 ∀(pins:List (Addr×Obj))(s:Shared)(σ:St)(H:Hp)(D:Ends),Inv X pins σ H s->t D σ H->wpAny (model X.prog X.w) X.A (execs st X.env) (SP X pins D) X.xe s
theorem thn{α:Type}{t:Sem α}{Q Q':α->Shared->Prop}{M:Qs4}{A:Jb}{E:Value->Shared->Prop}{s:Shared}(h:wpAny M A t Q E s)(hQ:∀a s,Q a s->Q' a s):wpAny M A t Q' E s:=wpAny_mono h hQ λ_ _ x=>x
section
variable{X:Cx}
def Qde(i:Nat):TE:=λσ H Q=>∃v,σ[i]? = some (some v)/\Q v H
def tC(v:V):TE:=λ_ H Q=>Q v H
theorem QtW{i:Nat}{x:Str}{pos:Pos}(hN:X.N[i]? = some x)(hv:Vis X.env.scope x)(hd:(x == ("__debug__" : Str))=false:=by decide)(hcd:(x == ("__classdict__" : Str))=false:=by decide):PE X (.Name x pos) (Qde i):=by
 intro pins s σ H Q I h;obtain⟨v,e,h⟩:=h;obtain⟨m,hn,hl⟩:=I.loc;obtain⟨u,r,l⟩:=hl i x v hN e hv;have fin:EP X pins σ Q u s:=⟨v,H,I,r,h⟩;rcases l with⟨hk,hm⟩ | ⟨hk,c,hc,hcell⟩
 ·exact QvR (wpAny_loadName_local I.ok.kind hk hn hm fin) hd
 ·rcases hk with hk | hk
  ·exact QvR (wpAny_loadName_cell I.ok.kind hk hc hcell fin) hd
  ·exact QvR (wpAny_loadName_free I.ok.kind hk hc hcell fin hcd) hd
theorem Zq{i j pos}:PE X (.Constant (.int i) j pos) (tC (.int i)):=λ_ _ _ H _ I h=>wpAny_Constant_int ⟨.int i,H,I.tok _,⟨_,rfl⟩,h⟩
theorem QtY{b j pos}:PE X (.Constant (.bool b) j pos) (tC (.bl b)):=λ_ _ _ H _ I h=>Constant_bool ⟨.bl b,H,I,rfl,h⟩
theorem Qkv{x j pos}:PE X (.Constant (.str x) j pos) (tC (.str x)):=λ_ _ _ H _ I h=>Calls.Constant_str ⟨.str x,H,I.tok _,⟨_,rfl⟩,h⟩
def Gl(X:Cx)(x:Str):Prop:=X.env.kindOf x=some .globalImplicit
theorem Qhf{E:Value->Shared->Prop}{pins:List (Addr×Obj)}{s:Shared}{σ:St}{H:Hp}{x:Str}{u:Value}{pos:Pos}{Q:Value->Shared->Prop}(I:Inv X pins σ H s)(hg:Gl X x)(hm:X.mg x=some u)(h:Q u s)
  (hd:(x == ("__debug__" : Str))=false:=by decide):wpAny (model X.prog X.w) X.A (eval (.Name x pos) X.env) Q E s:=
 Qfz I.ok.kind hg (Calls.loadGlobal_global (by rw[I.ok.glob];exact I.mod.glob.keeps I.bk) hm h) hd
theorem Qa0{E:Value->Shared->Prop}{pins:List (Addr×Obj)}{s:Shared}{σ:St}{H:Hp}{x:Str}{u:Value}{pos:Pos}{Q:Value->Shared->Prop}(I:Inv X pins σ H s)(hg:Gl X x)(hm:X.mg x=none)(hv:bootBuiltins x=some u)(h:Q u s)
  (hn:x ≠ "__name__" := by decide)(hd:(x == ("__debug__" : Str))=false:=by decide):wpAny (model X.prog X.w) X.A (eval (.Name x pos) X.env) Q E s:=by
 obtain⟨mb,h1,h2⟩:=I.mod.blt;exact Qfz I.ok.kind hg (Calls.loadGlobal_builtin (by rw[I.ok.glob];exact I.mod.glob.keeps I.bk) hm (by rw[I.ok.blt];exact h1.keeps I.bk) ((h2 x hn).trans hv) h) hd
theorem Qat{x:Str}{v:V}{u:Value}{pos:Pos}(hg:Gl X x)(hm:X.mg x=some u)(r:RelV v u)(hd:(x == ("__debug__" : Str))=false:=by decide):PE X (.Name x pos) (tC v):=
 λ_ _ _ H _ I h=>Qhf I hg hm ⟨v,H,I,r,h⟩ hd
theorem Qkw{x:Str}{v:V}{u:Value}{pos:Pos}(hg:Gl X x)(hm:X.mg x=none)(hv:bootBuiltins x=some u)(r:RelV v u)(hn:x ≠ "__name__" := by decide)(hd:(x == ("__debug__" : Str))=false:=by decide):PE X (.Name x pos) (tC v):=
 λ_ _ _ H _ I h=>Qa0 I hg hm hv ⟨v,H,I,r,h⟩ hn hd
variable{a b:QR}{ta tb:TE}{pos:Pos}
def tB(t:TE):TT:=λσ H Q=>t σ H λx H1=>∃c,x=.bl c/\Q c H1
theorem Qkn{e:QR}{t:TE}(h:PE X e t)(he:∀whole,isTrue e X.env whole=(do let v <- whole;standAt e.pos;holding [v] (truthy v)):=by intro _;rfl):PT X e (tB t):=by
 intro pins s σ H Q I hw;refine isTrue_plain (thn (h pins s σ H _ I hw) λv s1 ⟨x,H1,I1,r1,q1⟩=>?_) (he _);obtain⟨d,rfl,q⟩:=q1;cases r1;exact ZE ⟨H1,I1,q⟩
variable{tA tB':TT}{rest:List QR}
def tOr(t u:TT):TT:=λσ H Q=>t σ H λc H1=>if c=true then Q true H1 else u σ H1 Q
def Qyk(t:TT):TT:=λσ H Q=>t σ H λc H1=>Q (!c) H1
theorem QoE(ha:PT X a tA):PW X (.BoolOp .Or [a] pos) tA:=by
 intro wh pins s σ H Q I h;refine isTrue_or (thn (ha pins s σ H Q I h) λc s1 e=>?_);cases c with
 |false=>exact isTrue_or_nil e
 |true=>exact e
theorem Qp8(ha:PT X a tA)(hb:PW X (.BoolOp .Or (b::rest) pos) tB'):PW X (.BoolOp .Or (a::b::rest) pos) (tOr tA tB'):=by
 intro wh pins s σ H Q I h;refine isTrue_or (thn (ha pins s σ H _ I h) λc s1 ⟨H1,I1,q1⟩=>?_);cases c with
 |true=>exact⟨H1,I1,q1⟩
 |false=>exact hb wh pins s1 σ H1 Q I1 q1
theorem Qko(ha:PT X a tA):PT X (.UnaryOp .Not a pos) (Qyk tA):=by
 intro pins s σ H Q I h;exact isTrue_not (ha pins s σ H (λc H1=>Q (!c) H1) I h)
def Qwr(ta tb:TE):TE:=λσ H Q=>ta σ H λx H1=>∃c,x=.bl c/\if c=true then tb σ H1 Q else Q (.bl false) H1
def Qwo(ta:TE):TE:=λσ H Q=>ta σ H λx H1=>∃c,x=.bl c/\Q (.bl (!c)) H1
theorem QoJ{op}{t:TE}(h:PE X a t):PE X (.BoolOp op [a] pos) t:=λpins s σ H Q I hw=>BoolOp_one (h pins s σ H Q I hw)
theorem QoL(ha:PE X a ta)(hb:PE X (.BoolOp .And (b::rest) pos) tb):PE X (.BoolOp .And (a::b::rest) pos) (Qwr ta tb):=by
 intro pins s σ H Q I h;refine BoolOp_and (thn (ha pins s σ H _ I h) λv s1 ⟨x,H1,I1,r1,q1⟩=>?_);obtain⟨c,rfl,q1⟩:=q1;cases r1;refine ZE ?_
 cases c with
 |true=>exact hb pins s1 σ H1 Q I1 q1
 |false=>exact⟨.bl false,H1,I1,rfl,q1⟩
theorem QtX(ha:PE X a ta):PE X (.UnaryOp .Not a pos) (Qwo ta):=by
 intro pins s σ H Q I h;refine UnaryOp_ (thn (ha pins s σ H _ I h) λv s1 ⟨x,H1,I1,r1,q1⟩=>?_);obtain⟨c,rfl,q1⟩:=q1;cases r1;exact not_of (ZE ⟨.bl (!c),H1,I1,rfl,q1⟩)
def tIf(t:TT)(ta tb:TE):TE:=λσ H Q=>t σ H λc H1=>if c=true then ta σ H1 Q else tb σ H1 Q
theorem QmU{c:QR}(hc:PT X c tA)(ha:PE X a ta)(hb:PE X b tb):PE X (.IfExp c a b pos) (tIf tA ta tb):=by
 intro pins s σ H Q I h;refine wpAny_IfExp (thn (hc pins s σ H _ I h) λd s1 ⟨H1,I1,q1⟩=>?_);cases d with
 |true=>exact ha pins s1 σ H1 Q I1 q1
 |false=>exact hb pins s1 σ H1 Q I1 q1
end
def SqL(K:PySem.W.Frag)(H:Hp)(a:Addr)(xs:List V):Prop:=
 Rd H a (.lst xs) ∨
  ∃(o:Obj)(its:Array Value)(n:Nat),K.lookup a=some o/\o.cls=.type "list" /\ o.dict=none/\o.data=.seq its n/\its.size<=sizeLine/\Vals xs its.toList
def SqT(K:PySem.W.Frag)(H:Hp)(a:Addr)(xs:List V):Prop:=
 Rd H a (.tup xs) ∨
  ∃(o:Obj)(its:Array Value)(n:Nat),K.lookup a=some o/\o.cls=.type "tuple" /\ o.data=.seq its n/\its.size<=sizeLine/\Vals xs its.toList
def QyK:Value->Option V
 |.none=>some .non
 |.bool b=>some (.bl b)
 |.int i _=>some (.int i)
 |.str x _=>some (.str x)
 |.bytes b _=>some (.byt b)
 |.float b _=>some (.flt b)
 |.ref a=>some (.ref a)
 |.type n=>some (.ty n)
 |_=>none
theorem RelV.abs{x:V}{u:Value}(r:RelV x u):QyK u=some x:=by
 cases x with
 |non=>cases r;rfl
 |bl _=>cases r;rfl
 |int _=>obtain⟨t,rfl⟩:=r;rfl
 |str _=>obtain⟨t,rfl⟩:=r;rfl
 |byt _=>obtain⟨t,rfl⟩:=r;rfl
 |flt _=>obtain⟨t,rfl⟩:=r;rfl
 |ref _=>cases r;rfl
 |ty _=>cases r;rfl
theorem RelV.inj{x y:V}{u:Value}(r:RelV x u)(q:RelV y u):x=y:=Qy (r.abs.symm.trans q.abs)
theorem Vals.inj:∀{xs ys:List V}{us:List Value},Vals xs us->Vals ys us->xs=ys
 |_,_,_,.nil,.nil=>rfl
 |_,_,_,.cons r t,.cons r' t'=>by rw[r.inj r',Vals.inj t t']
section
variable{X:Cx}{pins:List (Addr×Obj)}{σ:St}{H:Hp}{s:Shared}{a:Addr}{xs ys:List V}
theorem SqL.of{K:PySem.W.Frag}(h:H a=some (.lst xs)):SqL K H a xs:=.inl (.inl h)
theorem SqT.of{K:PySem.W.Frag}(h:H a=some (.tup xs)):SqT K H a xs:=.inl (.inl h)
theorem Inv.list(I:Inv X pins σ H s)(h:SqL X.K H a xs):∃its:List Value,Vals xs its/\PlainL s.heap a its.toArray/\xs.length<=sizeLine:=by
 rcases h with h | ⟨o,its,n,hk,hc,hd,hs,hz,r⟩
 ·obtain⟨z,its,n,r,e⟩:=h.ok I.hok;exact⟨its,r,⟨_,n,e,rfl,rfl,rfl⟩,z⟩
 ·refine⟨its.toList,r,⟨o,n,I.kIn a o hk,hc,hd,by simpa using hs⟩,?_⟩;have e:=r.length;simp only[JN] at e;omega
theorem Inv.tuple(I:Inv X pins σ H s)(h:SqT X.K H a xs):∃its:List Value,Vals xs its/\IsTup s.heap a its.toArray/\xs.length<=sizeLine:=by
 rcases h with h | ⟨o,its,n,hk,hc,hs,hz,r⟩
 ·obtain⟨z,its,r,p⟩:=h.ok I.hok;exact⟨its,r,p.tup,z⟩
 ·refine⟨its.toList,r,⟨o,I.kIn a o hk,hc,n,by simpa using hs⟩,?_⟩;have e:=r.length;simp only[JN] at e;omega
theorem Inv.list_inj(I:Inv X pins σ H s)(h:SqL X.K H a xs)(h':SqL X.K H a ys):xs=ys:=by
 obtain⟨its,r,⟨o,n,e,_,_,d⟩,_⟩:=I.list h;obtain⟨its',r',⟨o',n',e',_,_,d'⟩,_⟩:=I.list h';rw[e] at e';cases e';rw[d] at d';injection d' with d1 _
 have:its=its':=by simpa using congrArg QvD d1
 subst this;exact r.inj r'
theorem Inv.tuple_inj(I:Inv X pins σ H s)(h:SqT X.K H a xs)(h':SqT X.K H a ys):xs=ys:=by
 obtain⟨its,r,⟨o,e,_,n,d⟩,_⟩:=I.tuple h;obtain⟨its',r',⟨o',e',_,n',d'⟩,_⟩:=I.tuple h';rw[e] at e';cases e';rw[d] at d';injection d' with d1 _
 have:its=its':=by simpa using congrArg QvD d1
 subst this;exact r.inj r'
end
abbrev Cx.wish (X:Cx) (E:Value->Shared->Prop):Cx:={ X with xe:=E }
abbrev Cx.nox (X:Cx):Cx:=X.wish λ_ _=>False
theorem Cx.Ok.wish{X:Cx}(ok:X.Ok)(E:Value->Shared->Prop):(X.wish E).Ok:=
 ⟨ok.mod,ok.kind,ok.glob,ok.blt,ok.above,ok.inj,ok.has,ok.cab,ok.hd,ok.frames,ok.stk,ok.exf,ok.bs,ok.bsz,ok.noex,ok.exfs,ok.funs,ok.frf⟩
theorem Cx.Ok.unwish{X:Cx}{E:Value->Shared->Prop}(ok:(X.wish E).Ok):X.Ok:=
 ⟨ok.mod,ok.kind,ok.glob,ok.blt,ok.above,ok.inj,ok.has,ok.cab,ok.hd,ok.frames,ok.stk,ok.exf,ok.bs,ok.bsz,ok.noex,ok.exfs,ok.funs,ok.frf⟩
section
variable{X:Cx}{pins:List (Addr×Obj)}{σ:St}{H:Hp}{s:Shared}{E:Value->Shared->Prop}
theorem Inv.wish(I:Inv X pins σ H s)(E:Value->Shared->Prop):Inv (X.wish E) pins σ H s:=⟨I.ok.wish E,I.os,I.bare,I.base,I.loc,I.cell,I.free,I.freeC,I.pin,I.hok,I.len⟩
theorem Inv.unwish(I:Inv (X.wish E) pins σ H s):Inv X pins σ H s:=⟨I.ok.unwish,I.os,I.bare,I.base,I.loc,I.cell,I.free,I.freeC,I.pin,I.hok,I.len⟩
theorem SP.unwish{D:Ends}{f:Flow}{s':Shared}(h:SP (X.wish E) pins D f s'):SP X pins D f s':=by
 cases f with
 |next=>obtain⟨σ',H',I,q⟩:=h;exact⟨σ',H',I.unwish,q⟩
 |brk=>obtain⟨σ',H',I,q⟩:=h;exact⟨σ',H',I.unwish,q⟩
 |cont=>obtain⟨σ',H',I,q⟩:=h;exact⟨σ',H',I.unwish,q⟩
 |ret u=>obtain⟨v,σ',H',I,r,q⟩:=h;exact⟨v,σ',H',I.unwish,r,q⟩
theorem PE.nox{e:QR}{t:TE}(h:PE X.nox e t):PE X e t:=λpins s σ H Q I hw=>
 wpAny_mono (h pins s σ H Q (I.wish _) hw) (λ_ _ ⟨v,H',I',r,q⟩=>⟨v,H',I'.unwish,r,q⟩) λ_ _ z=>ZK z
theorem PT.nox{e:QR}{t:TT}(h:PT X.nox e t):PT X e t:=λpins s σ H Q I hw=>
 wpAny_mono (h pins s σ H Q (I.wish _) hw) (λ_ _ ⟨H',I',q⟩=>⟨H',I'.unwish,q⟩) λ_ _ z=>ZK z
theorem PSs.nox{st:List ZG}{t:TS}(h:PSs X.nox st t):PSs X st t:=λpins s σ H D I hw=>
 wpAny_mono (h pins s σ H D (I.wish _) hw) (λ_ _ q=>q.unwish) λ_ _ z=>ZK z
end
section
variable{X:Cx}{st:ZG}{rest:List ZG}{t u:TS}{e:QR}{te:TE}{pos:Pos}
def Qwp:TS:=λD σ H=>D.nx σ H
def Qyi(t u:TS):TS:=λD σ H=>t { D with nx:=u D } σ H
theorem QcG:PSs X [] Qwp:=λ_ _ σ H _ I h=>QcW ⟨σ,H,I,h⟩
theorem Zs(h1:PS X st t)(h2:PSs X rest u):PSs X (st::rest) (Qyi t u):=by
 intro pins s σ H D I h;refine wpAny_execs_cons (thn (h1 pins s σ H { D with nx:=u D } I h) λf s1 q=>?_);cases f with
 |next=>
  obtain⟨σ',H',I',q⟩:=q;exact h2 pins s1 σ' H' D I' q
 |ret v=>exact q
 |brk=>exact q
 |cont=>exact q
theorem Z8(h1:PS X st t):PSs X [st] t:=by
 intro pins s σ H D I h;refine wpAny_execs_cons (thn (h1 pins s σ H D I h) λf s1 q=>?_);cases f with
 |next=>exact QcW q
 |ret v=>exact q
 |brk=>exact q
 |cont=>exact q
theorem Inv.quiet{pins:List (Addr×Obj)}{σ:St}{H:Hp}{s:Shared}(I:Inv X pins σ H s):interactive X.env=false:=by simp[interactive,I.ok.kind]
def Qmt(te:TE):TS:=λD σ H=>te σ H λ_ H1=>D.nx σ H1
theorem Qg4(he:PE X e te)(hs:swapsWith e none pos.line X.env=pure false:=by rfl):PS X (.Expr e pos) (Qmt te):=by
 intro pins s σ H D I h;exact wpAny_Expr_any (thn (he pins s σ H _ I h) λv s1 ⟨x,H1,I1,r1,q1⟩=>⟨σ,H1,I1,q1⟩) I.quiet hs
def Qyj(te:TE):TS:=λD σ H=>te σ H D.rt
theorem Qal(he:PE X e te):PS X (.Return (some e) pos) (Qyj te):=by
 intro pins s σ H D I h;exact wpAny_Return_some (thn (he pins s σ H _ I h) λv s1 ⟨x,H1,I1,r1,q1⟩=>⟨x,σ,H1,I1,r1,q1⟩)
def Qym(c:TT)(t u:TS):TS:=λD σ H=>c σ H λb H1=>if b=true then t D σ H1 else u D σ H1
theorem QiS{c:QR}{a b:List ZG}{tc:TT}(hc:PT X c tc)(ha:PSs X a t)(hb:PSs X b u):PS X (.If c a b pos) (Qym tc t u):=by
 intro pins s σ H D I h;refine wpAny_If (thn (hc pins s σ H _ I h) λd s1 ⟨H1,I1,q1⟩=>?_);cases d with
 |true=>exact ha pins s1 σ H1 D I1 q1
 |false=>exact hb pins s1 σ H1 D I1 q1
end
abbrev TG:=V->St->Hp->(St->Hp->Prop)->Prop
abbrev TGs:=List V->St->Hp->(St->Hp->Prop)->Prop
def PG(X:Cx)(target:QR)(t:TG):Prop:=
 ∀(pins:List (Addr×Obj))(s:Shared)(σ:St)(H:Hp)(v:V)(u:Value)(Q:St->Hp->Prop),Inv X pins σ H s->RelV v u->t v σ H Q ->
  wpAny (model X.prog X.w) X.A (assign target X.env u) (λ_ s'=>∃σ' H',Inv X pins σ' H' s'/\Q σ' H') X.xe s
def PGs(X:Cx)(ts:List QR)(t:TGs):Prop:=
 ∀(pins:List (Addr×Obj))(s:Shared)(σ:St)(H:Hp)(vs:List V)(us:List Value)(Q:St->Hp->Prop),Inv X pins σ H s->Vals vs us->t vs σ H Q ->
  wpAny (model X.prog X.w) X.A (assignInOrder ((assignEach ts X.env).map (·.2)) us) (λ_ s'=>∃σ' H',Inv X pins σ' H' s'/\Q σ' H') X.xe s
abbrev TSet:=V->V->V->Hp->(Hp->Prop)->Prop
def QxA(X:Cx)(t:TSet):Prop:=
 ∀(pins:List (Addr×Obj))(s:Shared)(σ:St)(H:Hp)(o i v:V)(ov iv u:Value)(Q:Hp->Prop),Inv X pins σ H s->RelV o ov->RelV i iv->RelV v u->t o i v H Q ->
  wpAny (model X.prog X.w) X.A (setItem ov iv u) (λ_ s'=>∃H',Inv X pins σ H' s'/\Q H') X.xe s
abbrev TIp:=V->V->Hp->VK->Prop
def PIp(X:Cx)(op:QeE)(t:TIp):Prop:=
 ∀(pins:List (Addr×Obj))(s:Shared)(σ:St)(H:Hp)(x y:V)(v u:Value)(Q:VK),Inv X pins σ H s->RelV x v->RelV y u->t x y H Q ->
  wpAny (model X.prog X.w) X.A (inplaceOp op v u) (EP X pins σ Q) X.xe s
section
variable{X:Cx}{pos:Pos}
def QbE(i:Nat):TG:=λv σ H Q=>Q (σ.set i (some v)) H
theorem Y3{i:Nat}{x:Str}(hN:X.N.Nodup)(hi:X.N[i]? = some x)(hx:Loc X.env.scope x)(hf:X.fn x=true∨X.env.scope.names.lookup x=some .local:=by first | exact .inl rfl | exact .inr rfl | assumption):PG X (.Name x pos) (QbE i):=by
 intro pins s σ H v u Q I r h;exact QvQ (QaJ I hN hi hx r (λs' I'=>⟨_,H,I',h⟩) hf)
def QvK:TGs:=λvs σ H Q=>vs=[]/\Q σ H
def Qi8(t:TG)(u:TGs):TGs:=λvs σ H Q=>∃v r,vs=v::r/\t v σ H λσ' H'=>u r σ' H' Q
theorem Qg6:PGs X [] QvK:=by
 intro pins s σ H vs us Q I r h;obtain⟨e,h⟩:=h;subst e;cases r;exact QfD ⟨σ,H,I,h⟩
theorem Qca{e:QR}{es:List QR}{t:TG}{u:TGs}(h1:PG X e t)(h2:PGs X es u)
  (hs:(assignEach (e::es) X.env).map (·.2)=assign e X.env::(assignEach es X.env).map (·.2):=by rfl):PGs X (e::es) (Qi8 t u):=by
 intro pins s σ H vs us Q I r h;obtain⟨v,vr,e1,h⟩:=h;subst e1;cases r with
 |cons r rr=>
  rw[hs];refine Z2 (thn (h1 pins s σ H _ _ _ I r h) λ_ s1 ⟨σ1,H1,I1,q1⟩=>?_);exact h2 pins s1 σ1 H1 _ _ Q I1 rr q1
def QvJ(K:PySem.W.Frag)(n:Nat)(t:TGs):TG:=λv σ H Q=>∃a xs,v=.ref a/\SqT K H a xs/\xs.length=n/\t xs σ H Q
theorem Qku{es:List QR}{k:Nat}{t:TGs}{n:Nat}(hc:X.calm=true)(h:PGs X es t)
  (hn:(assignEach es X.env).length=n:=by rfl)(hst:(assignEach es X.env).findIdx? (·.1)=none:=by rfl):PG X (.Tuple es k pos) (QvJ X.K n t):=by
 intro pins s σ H v u Q I r hw;obtain⟨a,xs,e1,hq,hl,hw⟩:=hw;subst e1;cases r;obtain⟨its,rv,ht,hz⟩:=I.tuple hq;refine assign_Tuple_tuple (I.ok.hd hc) ht (by simp[hn,<- hl,rv.length]) hst λh' hx=>?_
 have I1:Inv X pins σ H { s with heap:=h' }:=I.kept (t':=s.toks) λb o e=>hx b o (QC (Qk e)) e
 exact h pins _ σ H xs _ Q I1 (by simpa using rv) hw
def gSub(to ti:TE)(t:TSet):TG:=λv σ H Q=>to σ H λo H1=>ti σ H1 λi H2=>t o i v H2 λH3=>Q σ H3
theorem QtV{o i:QR}{to ti:TE}{t:TSet}(ho:PE X o to)(hi:PE X i ti)(hs:QxA X t)
  (ha:∀v,assign (.Subscript o i pos) X.env v=(do
   let ov <- holding [v] (eval o X.env)
   let iv <- holding [v,ov] (eval i X.env)
   standAt pos
   holding [v,ov,iv] (setItem ov iv v)
   release [v,ov,iv] []):=by intro _;rfl):PG X (.Subscript o i pos) (gSub to ti t):=by
 intro pins s σ H v u Q I r h;rw[ha];refine wpAny_bind (Yj (thn (ho pins s σ H _ I h) λov s1 ⟨x,H1,I1,r1,q1⟩=>?_));refine wpAny_bind (Yj (thn (hi pins s1 σ H1 _ I1 q1) λiv s2 ⟨y,H2,I2,r2,q2⟩=>?_));refine wpAny_bind (wpAny_standAt (wpAny_bind (Yj (thn (hs pins s2 σ H2 x y v ov iv u _ I2 r1 r2 r q2) λ_ s3 ⟨H3,I3,q3⟩=>?_))));exact wpAny_release ⟨σ,H3,I3,q3⟩
def QpI(te:TE)(g:TG):TS:=λD σ H=>te σ H λx H1=>g x σ H1 D.nx
theorem QoG{tg e:QR}{te:TE}{g:TG}(he:PE X e te)(hg:PG X tg g)(hs:swapsWithSole [tg] e pos.line X.env=pure false:=by rfl)(hw:swappedStores [tg] e X.env=pure none:=by rfl)
  (h1:(assignEach [tg] X.env).map (·.2)=[assign tg X.env]:=by rfl):PS X (.Assign [tg] e pos) (QpI te g):=by
 intro pins s σ H D I h;refine wpAny_Assign_stores (thn (he pins s σ H _ I h) λv s1 ⟨x,H1,I1,r1,q1⟩=>?_) hs hw;rw[h1];exact thn (hg pins s1 σ H1 x v _ I1 r1 q1) λ_ s2 q=>q
theorem QbH{i:Nat}{x:Str}{e:QR}{te:TE}{pos':Pos}(hN:X.N.Nodup)(hi:X.N[i]? = some x)(hx:Loc X.env.scope x)(he:PE X e te)(hs:swapsWith e (some (.Name x pos')) pos.line X.env=pure false:=by rfl)(hf:X.fn x=true∨X.env.scope.names.lookup x=some .local:=by first | exact .inl rfl | exact .inr rfl | assumption) :
  PS X (.Assign [.Name x pos'] e pos) (QpI te (QbE i)):=by
 intro pins s σ H D I h;refine wpAny_Assign_Name (thn (he pins s σ H _ I h) λv s1 ⟨y,H1,I1,r1,q1⟩=>?_) hs;exact QaJ I1 hN hi hx r1 (λs2 I2=>⟨_,H1,I2,q1⟩) hf
def QxE(i j:Nat)(ta:TA):TS:=λD σ H=>ta σ H λvs H1=>∃v w,vs=[v,w]/\D.nx ((σ.set i (some v)).set j (some w)) H1
theorem QtR{i j:Nat}{x y:Str}{a b:QR}{ta:TA}{px py pt:Pos}{kt k2 pt2}(hc:X.calm=true)(hN:X.N.Nodup)(hi:X.N[i]? = some x)(hj:X.N[j]? = some y)(hij:i≠j)
  (hx:X.env.scope.names.lookup x=some .local)(hy:X.env.scope.names.lookup y=some .local)(ha:PA X [a,b] ta)
  (hw:swappedStores [.Tuple [.Name x px,.Name y py] kt pt] (.Tuple [a,b] k2 pt2) X.env=pure (some [x,y]))
  (hs:swapsWithSole [.Tuple [.Name x px,.Name y py] kt pt] (.Tuple [a,b] k2 pt2) pos.line X.env=pure false:=by rfl) :
  PS X (.Assign [.Tuple [.Name x px,.Name y py] kt pt] (.Tuple [a,b] k2 pt2) pos) (QxE i j ta):=by
 intro pins s σ H D I h;rw[exec_Assign_arm];refine wpAny_bind (wpAny_standAt ?_);rw[hs];refine wpAny_bind (Qm ?_);rw[if_neg (by decide)];refine wpAny_bind (Tuple_ (thn (ha _ pins s σ H _ I h) λus s1 ⟨vs,H1,I1,r1,q1⟩=>?_));obtain⟨v,w,e1,q1⟩:=q1;subst e1;obtain⟨u1,u2,rfl,rv,rw'⟩:∃u1 u2,us=[u1,u2]/\RelV v u1/\RelV w u2:=by
  cases r1 with
  |cons p q=>
   cases q with
   |cons p' q'=>
    cases q';exact⟨_,_,rfl,p,p'⟩
 refine JH ?_ (by show 2<=sizeLine;decide)
 have I2:Inv X pins σ H1 { s1 with heap:=s1.heap.push { cls:=.type "tuple",data:=.seq [u1,u2].toArray } }:=I1.kept (t':=s1.toks) λb o e=>Qc _ e
 rw[hw];refine wpAny_bind (Qm ?_);show wpAny (model X.prog X.w) X.A (do rule "assign.swapped-stores";let items <- unpackItems (.ref s1.heap.objs.size) 2 none;assignInOrder [λv=>bindName X.env y v,λv=>bindName X.env x v] items.reverse;pure Qju) _ _ _;refine wpAny_bind (wpAny_rule (wpAny_bind (QvS (items:=#[u1,u2]) (I.ok.hd hc) (IsTup.new s1.heap _) λh' hx'=>?_)));have I3:=I2.kept (h':=h') (t':=s1.toks) λb o e=>hx' b o (QC (Qk e)) e
 show wpAny _ _ (assignInOrder [λv=>bindName X.env y v,λv=>bindName X.env x v] [u2,u1] >>= λ_=>pure Qju) _ _ _;refine wpAny_bind (Z2 (QbA (QaJ I3 hN hj (.inl hy) rw' (λs2 I4=>?_) (.inr hy))));refine Z2 (QbA (QaJ I4 hN hi (.inl hx) rv (λs3 I5=>QfD (Qm ?_)) (.inr hx)));rw[Qc1 _ _ (Qa9 hij)] at I5;exact⟨_,H1,I5,q1⟩
def Qtn(to ti te:TE)(tget:V->V->Hp->VK->Prop)(tip:TIp)(tset:TSet):TS:=λD σ H=>to σ H λo H1=>ti σ H1 λi H2=>tget o i H2 λx H3=>te σ H3 λy H4=>tip x y H4 λz H5=>tset o i z H5 λH6=>D.nx σ H6
def Qyc(X:Cx)(t:V->V->Hp->VK->Prop):Prop:=
 ∀(pins:List (Addr×Obj))(s:Shared)(σ:St)(H:Hp)(o i:V)(ov iv:Value)(Q:VK),Inv X pins σ H s->RelV o ov->RelV i iv->t o i H Q ->
  wpAny (model X.prog X.w) X.A (getItem ov iv) (EP X pins σ Q) X.xe s
theorem Qra{o i e:QR}{to ti te:TE}{tget:V->V->Hp->VK->Prop}{tip:TIp}{tset:TSet}{op:QeE}{tpos:Pos}(ho:PE X o to)(hi:PE X i ti)(hg:Qyc X tget)(he:PE X e te)(hp:PIp X op tip)(hs:QxA X tset)
  (ha:∀ov iv new,augStore i ov iv new=(do holding [new,ov,iv] (setItem ov iv new);release [new,ov,iv] [];pure .next):=by intros;rfl):PS X (.AugAssign (.Subscript o i tpos) op e pos) (Qtn to ti te tget tip tset):=by
 intro pins s σ H D I h;refine wpAny_AugAssign_SubscriptAny (thn (ho pins s σ H _ I h) λov s1 ⟨x1,H1,I1,r1,q1⟩=>?_) ha;refine thn (hi pins s1 σ H1 _ I1 q1) λiv s2 ⟨x2,H2,I2,r2,q2⟩=>?_
 refine thn (hg pins s2 σ H2 x1 x2 ov iv _ I2 r1 r2 q2) λold s3 ⟨x3,H3,I3,r3,q3⟩=>?_
 refine thn (he pins s3 σ H3 _ I3 q3) λv s4 ⟨x4,H4,I4,r4,q4⟩=>?_
 refine thn (hp pins s4 σ H4 x3 x4 old v _ I4 r3 r4 q4) λnew s5 ⟨x5,H5,I5,r5,q5⟩=>?_
 exact thn (hs pins s5 σ H5 x1 x2 x5 ov iv new _ I5 r1 r2 r5 q5) λ_ s6 ⟨H6,I6,q6⟩=>⟨σ,H6,I6,q6⟩
def ipI(f:Int->Int->Int):TIp:=λx y H Q=>∃i j,x=.int i/\y=.int j/\Q (.int (f i j)) H
theorem QuM:PIp X .Add (ipI λi j=>i+j):=by
 intro pins s σ H x y v u Q I r1 r2 h;obtain⟨i,j,e1,e2,q⟩:=h;subst e1;subst e2;obtain⟨t,rfl⟩:=r1;obtain⟨t',rfl⟩:=r2;exact iadd_int ⟨.int _,H,I.tok _,⟨_,rfl⟩,q⟩
end
section
variable{X:Cx}{pos:Pos}
def Qtj(c:TT)(tb:TS):TS:=λD σ H=>∃W:Nat->St->Hp->Prop,(∃m,W m σ H)/\∀m σ H,W m σ H ->
 c σ H λb H1=>if b=true then ∃N:St->Hp->Prop,(∀σ' H',N σ' H'->∃m',m'<m/\W m' σ' H')/\tb { D with nx:=N,ct:=N,bk:=D.nx } σ H1 else D.nx σ H1
theorem QmN{c:QR}{body:List ZG}{tc:TT}{tb:TS}(hp:QeD (model X.prog X.w) X.A X.env X.xe)(hc:PT X c tc)(hb:PSs X body tb):PS X (.While c body [] pos) (Qtj tc tb):=by
 intro pins s σ H D I h;obtain⟨W,⟨m0,w0⟩,turn⟩:=h;refine wpAny_While (codeAny_whileLoop (λn s'=>∃σ' H',Inv X pins σ' H' s'/\W n σ' H') ?_ m0 ⟨σ,H,I,w0⟩);rintro n s1 ⟨σ1,H1,I1,w1⟩;refine Yc hp (thn (hc pins s1 σ1 H1 _ I1 (turn n σ1 H1 w1)) λb s2 ⟨H2,I2,q2⟩=>?_);cases b with
 |true=>
  obtain⟨N,hN,q2⟩:=q2;rw[if_pos rfl];refine Yc hp (thn (hb pins s2 σ1 H2 _ I2 q2) λf s3 q3=>?_);cases f with
  |next=>
   obtain⟨σ3,H3,I3,n3⟩:=q3;obtain⟨m',hm,w3⟩:=hN σ3 H3 n3;exact⟨m',hm,σ3,H3,I3,w3⟩
  |cont=>
   obtain⟨σ3,H3,I3,n3⟩:=q3;obtain⟨m',hm,w3⟩:=hN σ3 H3 n3;exact⟨m',hm,σ3,H3,I3,w3⟩
  |brk=>exact q3
  |ret v=>exact q3
 |false=>
  rw[if_neg Qo];exact QcW ⟨σ1,H2,I2,q2⟩
end
structure It where
 go:Nat->Hp->Prop
 yld:Nat->Hp->V->Hp->Prop
 stop:Nat->Hp->Prop
def FpOk(X:Cx)(pins:List (Addr×Obj))(H:Hp)(b:Addr):Prop:=
 H b=none/\b≠X.env.locals/\b∉X.fs/\(b∈X.ex∨X.s₀.heap.objs.size<=b)/\(∀x c,X.env.cells.lookup x=some c->c≠b)/\∀p∈X.pn++pins,p.1≠b
theorem Inv.fpOk{X:Cx}{pins:List (Addr×Obj)}{σ:St}{H H':Hp}{s:Shared}{b:Addr}(I:Inv X pins σ H s)(hb:s.heap.objs.size<=b)(hn:H' b=none):FpOk X pins H' b:=by
 refine⟨hn,Qb3 (QH I.lt hb),I.nofs hb,.inr (QJ I.sz hb),λx c e z=>?_,λp hp z=>?_⟩
 ·obtain⟨v,q⟩:=I.cell x c e;exact absurd (QH q.lt (by rw[z];exact hb)) (ZF _)
 ·exact absurd (QH (Qk (I.pin p hp).1) (by rw[z];exact hb)) (ZF _)
structure Turn (P:Qz) (w:Jf) (K:PySem.W.Frag) (tg:QR) (J:It) (fp:List Addr) (it:Addr) (tn:Nat->JR->Prop):Prop where
 mem:it∈fp
 obj:∀i h,tn i h->∀b∈fp,∃o,h.get? b=some o/\∀v,o.data≠.cell v
 keep:∀i h h',tn i h->(∀b∈fp,∀o,h.get? b=some o->h'.get? b=some o)->tn i h'
 item:∀(X:Cx),X.prog=P->X.w=w->X.K=K->X.calm=true->∀(i:Nat)(pins:List (Addr×Obj))(s:Shared)(σ:St)(H:Hp)(E:Value->Shared->Prop),Inv X pins σ H s->(∀b∈fp,FpOk X pins H b)->tn i s.heap->J.go i H ->
  wpAny (model P w) X.A (pyNext (.ref it)) (λr s1=>∃u,r=some u /\
   wpAny (model P w) X.A (letOwnedTupleGo tg (.ref it) u) (λ_ s2=>∃x H',Inv X pins σ H' s2/\RelV x u/\J.yld i H x H'/\tn (i+1) s2.heap/\∀b∈fp,H' b=none) E s1) E s
 done:∀(X:Cx),X.prog=P->X.w=w->X.K=K->X.calm=true->∀(i:Nat)(pins:List (Addr×Obj))(s:Shared)(σ:St)(H:Hp)(E:Value->Shared->Prop),Inv X pins σ H s->(∀b∈fp,FpOk X pins H b)->tn i s.heap->J.stop i H ->
  wpAny (model P w) X.A (pyNext (.ref it)) (λr s1=>r=none/\Inv X pins σ H s1) E s
 self:∀(A:Jb)(i:Nat)(s:Shared)(Q:Value->Shared->Prop)(E:Value->Shared->Prop),tn i s.heap->Q (.ref it) s->wpAny (model P w) A (pyIter (.ref it)) Q E s
abbrev TI:=St->Hp->(It->Hp->Prop)->Prop
def PIE(X:Cx)(pins:List (Addr×Obj))(σ:St)(tg:QR)(R:It->Hp->Prop)(itv:Value)(s2:Shared):Prop:=
 ∃(it:Addr)(fp:List Addr)(tn:Nat->JR->Prop)(J:It)(H':Hp),itv=.ref it/\Inv X pins σ H' s2/\Turn X.prog X.w X.K tg J fp it tn/\tn 0 s2.heap/\(∀b∈fp,FpOk X pins H' b)/\R J H'
def PI(X:Cx)(tg iter:QR)(wi:TI):Prop:=
 ∀(pins:List (Addr×Obj))(s:Shared)(σ:St)(H:Hp)(R:It->Hp->Prop),Inv X pins σ H s->wi σ H R ->
  wpAny (model X.prog X.w) X.A (eval iter X.env) (λv s1=>wpAny (model X.prog X.w) X.A (pyIter v) (PIE X pins σ tg R) X.xe s1) X.xe s
theorem Qli{M:Qs4}{A:Jb}{E:Value->Shared->Prop}{s:Shared}{tg:QR}{it:Addr}{u:Value}{o:Obj}{n:String}{vs:Array Value}{Q:Unit->Shared->Prop}(ho:s.heap.get? it=some o)(hc:o.cls=.type n)(hd:o.data=.fields vs)
  (hn:["enumerate", "zip", "dict_itemiterator", "dict_reverseitemiterator", "odict_iterator", "itertools.zip_longest", "itertools.pairwise"].contains n=false)(hQ:Q () s):wpAny M A (letOwnedTupleGo tg (.ref it) u) Q E s:=by
 unfold letOwnedTupleGo;cases tg<;>first
  |exact Qm hQ
  |(cases u<;>first
    |exact Qm hQ
    |(refine wpAny_bind (wpAny_load ho ?_)
      rw[hc,hd];show wpAny M A (if(["enumerate", "zip", "dict_itemiterator", "dict_reverseitemiterator", "odict_iterator", "itertools.zip_longest", "itertools.pairwise"].contains n&&vs[0]? == some (rawInt _))=true then _ else _) Q E s;rw[if_neg (by intro h;rw[hn,Qs9] at h;cases h)];exact Qm hQ))
def Itl(K:PySem.W.Frag)(a:Addr):It:=
 ⟨λi H=>∃xs x,SqL K H a xs/\xs[i]? = some x,λi H x H'=>H'=H/\∀xs,SqL K H a xs->xs[i]? = some x,λi H=>∃xs,SqL K H a xs/\xs.length<=i⟩
def Itt(K:PySem.W.Frag)(a:Addr):It:=
 ⟨λi H=>∃xs x,SqT K H a xs/\xs[i]? = some x,λi H x H'=>H'=H/\∀xs,SqT K H a xs->xs[i]? = some x,λi H=>∃xs,SqT K H a xs/\xs.length<=i⟩
def Itr(lo:Int)(n:Nat):It:=⟨λi _=>i<n,λi H x H'=>H'=H/\x=.int (lo+i),λi _=>n<=i⟩
theorem QjN{P:Qz}{w:Jf}{K:PySem.W.Frag}{tg:QR}(a it:Addr):Turn P w K tg (Itl K a) [it] it (λi h=>h.IsListIter it a i) where
 mem:=by simp
 obj:=λi h st b hb=>by
  have e:b=it:=by simpa using hb
  subst e;obtain⟨o,e,c,d⟩:=st;exact⟨o,e,λv z=>by rw[d] at z;cases z⟩
 keep:=λi h h' st k=>st.at λo e=>k it (by simp) o e
 item:=by
  intro X hP hw hK hc i pins s σ H E I hf st hg;subst hP hw hK;obtain⟨xs,x,hq,hx⟩:=hg;obtain⟨its,rv,p,hz⟩:=I.list hq;obtain⟨u,hu,ru⟩:=rv.get hx;obtain⟨f0,f1,f2,f3,f4,f5⟩:=hf it (by simp);refine wpAny_pyNext_list_item st p.isList (x:=u) (by simpa using hu) λh' st' sb=>?_
  have I1:Inv X pins σ H { s with heap:=h' }:=I.turned (t':=s.toks) (λb o hb e=>(sb.2 b hb).trans e) f0 f1 f3 f4 f5;obtain⟨o,e,c,d⟩:=id st';exact⟨u,rfl,Qli (s:={ s with heap:=h' }) e c d (by decide) ⟨x,H,I1,ru,⟨rfl,λys hy=>by rw[I.list_inj hy hq];exact hx⟩,st',λb hb=>(hf b hb).1⟩⟩
 done:=by
  intro X hP hw hK hc i pins s σ H E I hf st hg;subst hP hw hK;obtain⟨xs,hq,hx⟩:=hg;obtain⟨its,rv,p,hz⟩:=I.list hq;obtain⟨f0,f1,f2,f3,f4,f5⟩:=hf it (by simp);have hl:=rv.length;exact wpAny_pyNext_list_end (I.ok.hd hc) st p.isList (by simp;omega) λh' eb=>⟨rfl,I.turned (t':=s.toks) (λb o hb e=>eb b o hb e) f0 f1 f3 f4 f5⟩
 self:=λ_ _ _ _ _ st h=>wpAny_pyIter_listiter st h
theorem QiC{P:Qz}{w:Jf}{K:PySem.W.Frag}{tg:QR}(a it:Addr):Turn P w K tg (Itt K a) [it] it (λi h=>h.IsTupleIter it a i) where
 mem:=by simp
 obj:=λi h st b hb=>by
  have e:b=it:=by simpa using hb
  subst e;obtain⟨o,e,c,d⟩:=st;exact⟨o,e,λv z=>by rw[d] at z;cases z⟩
 keep:=λi h h' st k=>st.at λo e=>k it (by simp) o e
 item:=by
  intro X hP hw hK hc i pins s σ H E I hf st hg;subst hP hw hK;obtain⟨xs,x,hq,hx⟩:=hg;obtain⟨its,rv,p,hz⟩:=I.tuple hq;obtain⟨u,hu,ru⟩:=rv.get hx;obtain⟨f0,f1,f2,f3,f4,f5⟩:=hf it (by simp);refine wpAny_pyNext_tuple_item st (show s.heap.IsTuple a its.toArray from p) (x:=u) (by simpa using hu) λh' st' sb=>?_
  have I1:Inv X pins σ H { s with heap:=h' }:=I.turned (t':=s.toks) (λb o hb e=>(sb.2 b hb).trans e) f0 f1 f3 f4 f5;obtain⟨o,e,c,d⟩:=id st';exact⟨u,rfl,Qli (s:={ s with heap:=h' }) e c d (by decide) ⟨x,H,I1,ru,⟨rfl,λys hy=>by rw[I.tuple_inj hy hq];exact hx⟩,st',λb hb=>(hf b hb).1⟩⟩
 done:=by
  intro X hP hw hK hc i pins s σ H E I hf st hg;subst hP hw hK;obtain⟨xs,hq,hx⟩:=hg;obtain⟨its,rv,p,hz⟩:=I.tuple hq;obtain⟨f0,f1,f2,f3,f4,f5⟩:=hf it (by simp);have hl:=rv.length;exact wpAny_pyNext_tuple_end (I.ok.hd hc) st (show s.heap.IsTuple a its.toArray from p) (by simp;omega) λh' eb=>⟨rfl,I.turned (t':=s.toks) (λb o hb e=>eb b o hb e) f0 f1 f3 f4 f5⟩
 self:=λ_ _ _ _ _ st h=>wpAny_pyIter_tupleiter st h
theorem QiD{P:Qz}{w:Jf}{K:PySem.W.Frag}{tg:QR}(it:Addr)(lo:Int)(n:Nat):Turn P w K tg (Itr lo n) [it] it (λi h=>Qiy h it (lo+(i:Nat)*1) ((n:Int) - (i:Nat)) 1) where
 mem:=by simp
 obj:=λi h st b hb=>by
  have e:b=it:=by simpa using hb
  subst e;exact⟨_,st,λv z=>by
   have z':Data.fields _=Data.cell v:=z;cases z'⟩
 keep:=λi h h' st k=>k it (by simp) _ st
 item:=by
  intro X hP hw hK hc i pins s σ H E I hf st hg;subst hP hw hK;obtain⟨f0,f1,f2,f3,f4,f5⟩:=hf it (by simp);have W:=QvW (prog:=X.prog) (w:=X.w) (I.ok.hd hc) it lo 1 n;refine W.item i s _ _ hg st λv h' tk hv st' kk=>?_
  obtain⟨t,rfl⟩:=hv;have I1:Inv X pins σ H { s with heap:=h',toks:=tk }:=I.turned (λb o hb e=>kk b o (by simpa using hb) e) f0 f1 f3 f4 f5;refine⟨_,rfl,Qli (s:={ s with heap:=h',toks:=tk }) (n := "range_iterator") st' rfl rfl (by decide) ⟨.int (lo+i),H,I1,⟨t,?_⟩,⟨rfl,rfl⟩,st',λb hb=>(hf b hb).1⟩⟩;rw[Int.mul_one]
 done:=by
  intro X hP hw hK hc i pins s σ H E I hf st hg;subst hP hw hK;obtain⟨f0,f1,f2,f3,f4,f5⟩:=hf it (by simp);exact Qob (I.ok.hd hc) st (by have:n<=i:=hg;omega) λh' eb=>⟨rfl,I.turned (t':=s.toks) (λb o hb e=>eb b o hb e) f0 f1 f3 f4 f5⟩
 self:=λ_ _ _ _ _ st h=>Qcq st h
section
variable{X:Cx}{tg:QR}
def Qxi(K:PySem.W.Frag)(tl:TE):TI:=λσ H R=>tl σ H λx H1=>∃a,x=.ref a/\(∃xs,SqL K H1 a xs)/\R (Itl K a) H1
def QyC(K:PySem.W.Frag)(tl:TE):TI:=λσ H R=>tl σ H λx H1=>∃a,x=.ref a/\(∃xs,SqT K H1 a xs)/\R (Itt K a) H1
theorem Qks{l:QR}{tl:TE}(hl:PE X l tl):PI X tg l (Qxi X.K tl):=by
 intro pins s σ H R I h;refine thn (hl pins s σ H _ I h) λv s1 ⟨x,H1,I1,r1,q1⟩=>?_
 obtain⟨a,e,⟨xs,hq⟩,q⟩:=q1;subst e;cases r1;obtain⟨its,rv,p,hz⟩:=I1.list hq;refine QvP p.isList ?_
 refine⟨s1.heap.objs.size,[s1.heap.objs.size],_,_,H1,rfl,I1.kept (t':=s1.toks) λb o e=>Qc _ e,QjN a _,⟨_,Qu _ rfl,rfl,rfl⟩,λb hb=>?_,q⟩;have e:b=s1.heap.objs.size:=by simpa using hb
 subst e;exact I1.fpOk (Qh _) (I1.hok.fresh (Qh _))
theorem QtT{l:QR}{tl:TE}(hl:PE X l tl):PI X tg l (QyC X.K tl):=by
 intro pins s σ H R I h;refine thn (hl pins s σ H _ I h) λv s1 ⟨x,H1,I1,r1,q1⟩=>?_
 obtain⟨a,e,⟨xs,hq⟩,q⟩:=q1;subst e;cases r1;obtain⟨its,rv,p,hz⟩:=I1.tuple hq;refine Z1 (show s1.heap.IsTuple a its.toArray from p) ?_
 refine⟨s1.heap.objs.size,[s1.heap.objs.size],_,_,H1,rfl,I1.kept (t':=s1.toks) λb o e=>Qc _ e,QiC a _,⟨_,Qu _ rfl,rfl,rfl⟩,λb hb=>?_,q⟩;have e:b=s1.heap.objs.size:=by simpa using hb
 subst e;exact I1.fpOk (Qh _) (I1.hok.fresh (Qh _))
theorem QhZ{pins:List (Addr×Obj)}{σ:St}{H:Hp}{s:Shared}{R:It->Hp->Prop}{E:Value->Shared->Prop}{lo hi:Int}{t u v:Tok}{tk:Nat}(I:Inv X pins σ H s)(h1 : -(2^62)<=lo)(h2:lo<2^62)(h3 : -(2^62)<=hi)(h4:hi<2^62)
  (q:R (Itr lo (hi - lo).toNat) H):wpAny (model X.prog X.w) X.A (pyIter (.ref s.heap.objs.size)) (PIE X pins σ tg R) E { s with heap:=s.heap.push { cls:=.type "range",data:=.fields #[.int lo t,.int hi u,.int 1 v] },toks:=tk }:=by
 refine wpAny_pyIter_range (IsRange.new ..) (small_one h1 h2 h3 h4) ?_
 have I1:Inv X pins σ H { s with heap:=s.heap.push { cls:=.type "range",data:=.fields #[.int lo t,.int hi u,.int 1 v] },toks:=tk }:=I.kept λb o e=>Qc _ e
 refine⟨(s.heap.push { cls:=.type "range",data:=.fields #[.int lo t,.int hi u,.int 1 v] }).objs.size,[(s.heap.push { cls:=.type "range",data:=.fields #[.int lo t,.int hi u,.int 1 v] }).objs.size],_,_,H,rfl,
  I1.kept (t':=tk) λb o e=>Qc _ e,QiD _ lo (hi - lo).toNat,?_,λb hb=>?_,q⟩
 ·have e1:lo+((0:Nat):Int)*1=lo:=by simp
  have e2:(((hi - lo).toNat:Nat):Int) - ((0:Nat):Int)=JM lo hi 1:=by rw[QeA];split<;>omega
  show Qiy _ _ (lo+((0:Nat):Int)*1) ((((hi - lo).toNat:Nat):Int) - ((0:Nat):Int)) 1;rw[e1,e2];exact Qu _ rfl
 ·have e:b=(s.heap.push { cls:=.type "range",data:=.fields #[.int lo t,.int hi u,.int 1 v] }).objs.size:=by simpa using hb
  subst e;exact I1.fpOk (Qh _) (I1.hok.fresh (Qh _))
def Qxh(ta:TA):TI:=λσ H R=>ta σ H λvs H1=>∃j:Int,vs=[.int j] /\ -(2^62)<=j/\j<2^62/\R (Itr 0 j.toNat) H1
def Qxg(ta:TA):TI:=λσ H R=>ta σ H λvs H1=>∃i j:Int,vs=[.int i,.int j]/\(-(2^62)<=i/\i<2^62 /\ -(2^62)<=j/\j<2^62)/\R (Itr i (j - i).toNat) H1
theorem Qb9{a:QR}{ta:TA}{p pos:Pos}(hg:Gl X "range")(hm:X.mg "range" = none)(ha:PA X [a] ta)(hs:starEach [a] X.env=[(false,eval a X.env)]:=by rfl):PI X tg (.Call (.Name "range" p) [a] [] pos) (Qxh ta):=by
 intro pins s σ H R I h;refine Qwd (Qa0 I hg hm QvV (Q5 (thn (ha pos pins s σ H _ I h) λus s1 ⟨vs,H1,I1,r1,q1⟩=>?_) hs rfl));obtain⟨j,e,q1,q2,q⟩:=q1;subst e;cases r1 with
 |cons r rr=>
  cases rr;obtain⟨t,rfl⟩:=r;exact call_range_1 (QhZ I1 (by omega) (by omega) q1 q2 (by simpa using q))
theorem Qkr{a b:QR}{ta:TA}{p pos:Pos}(hg:Gl X "range")(hm:X.mg "range" = none)(ha:PA X [a,b] ta)(hs:starEach [a,b] X.env=[(false,eval a X.env),(false,eval b X.env)]:=by rfl)(hs2:starEach [b] X.env=[(false,eval b X.env)]:=by rfl) :
  PI X tg (.Call (.Name "range" p) [a,b] [] pos) (Qxg ta):=by
 intro pins s σ H R I h;refine Qwd (Qa0 I hg hm QvV (Q5 (thn (ha pos pins s σ H _ I h) λus s1 ⟨vs,H1,I1,r1,q1⟩=>?_) (by rw[hs,hs2]) (by rw[hs2];rfl)));obtain⟨i,j,e,⟨q1,q2,q3,q4⟩,q⟩:=q1;subst e;cases r1 with
 |cons r rr=>
  cases rr with
  |cons r' rr=>
   cases rr;obtain⟨t,rfl⟩:=r;obtain⟨t',rfl⟩:=r';exact call_range_2 (QhZ I1 q1 q2 q3 q4 q)
def tFor(wi:TI)(g:TG)(tb:TS):TS:=λD σ H=>wi σ H λJ H1=>∃W:Nat->Nat->St->Hp->Prop,(∃m,W 0 m σ H1)/\∀i m σ H,W i m σ H ->
 (J.stop i H/\D.nx σ H)∨(J.go i H/\∃N:St->Hp->Prop,(∀σ' H',N σ' H'->∃m',m'<m/\W (i+1) m' σ' H')/\∀x H',J.yld i H x H'->g x σ H' λσ2 H2=>tb { D with nx:=N,ct:=N,bk:=D.nx } σ2 H2)
def Qh6(fp:List Addr)(h:JR):List (Addr×Obj):=fp.filterMap λb=>(h.get? b).map λo=>(b,o)
theorem Qbx{fp:List Addr}{h:JR}{b:Addr}{o:Obj}(hb:b∈fp)(e:h.get? b=some o):(b,o)∈Qh6 fp h:=Qc2.mpr ⟨b,hb,by rw[e];rfl⟩
theorem QkV{fp:List Addr}{h:JR}{p:Addr×Obj}(hp:p∈Qh6 fp h):p.1∈fp/\h.get? p.1=some p.2:=by
 obtain⟨b,hb,e⟩:=Qc2.mp hp;cases q:h.get? b with
 |none=>rw[q] at e;cases e
 |some o=>
  rw[q] at e;have e':(b,o)=p:=Qy e;subst e';exact⟨hb,q⟩
theorem Inv.pinned{pins:List (Addr×Obj)}{σ:St}{H:Hp}{s:Shared}{fp:List Addr}(I:Inv X pins σ H s)(hf:∀b∈fp,FpOk X pins H b)(ho:∀b∈fp,∃o,s.heap.get? b=some o/\∀v,o.data≠.cell v):Inv X (pins++Qh6 fp s.heap) σ H s:=
 I.pins_of λp hp=>(Ys.mp hp).elim (λz=>I.pin p (Jk _ z)) λz=>by
  obtain⟨hb,e⟩:=QkV z;obtain⟨f0,f1,f2,_⟩:=hf p.1 hb;obtain⟨o,e',d⟩:=ho p.1 hb;rw[e] at e';cases e';exact⟨e,f0,f1,f2,d⟩
theorem Inv.unpinned{pins pl:List (Addr×Obj)}{σ:St}{H:Hp}{s:Shared}(I:Inv X (pins++pl) σ H s):Inv X pins σ H s:=I.pins_of λp hp=>I.pin p (Jk _ (Qcp _ hp))
theorem QoF{iter:QR}{body:List ZG}{wi:TI}{g:TG}{tb:TS}{pos:Pos}(hp:QeD (model X.prog X.w) X.A X.env X.xe)(hc:X.calm=true)(hi:PI X tg iter wi)(hg:PG X tg g)(hb:PSs X body tb)
  (hs:∀x,foldedSetIterable iter X.env x=pure x:=by intro _;rfl):PS X (.For tg iter body [] pos) (tFor wi g tb):=by
 intro pins s σ H D I h;refine wpAny_For (thn (hi pins s σ H _ I h) λv s1 h1=>thn h1 λitv s2 h2=>?_) hs;obtain⟨it,fp,tn,J,H2,e,I2,T,st2,f2,W,⟨m0,w0⟩,turn⟩:=h2;subst e;have stat:∀{H':Hp},(∀b∈fp,H' b=none)->∀b∈fp,FpOk X pins H' b:=λhn b hb=>⟨hn b hb,(f2 b hb).2⟩
 refine codeAny_forLoop_any (λn s'=>∃i σ' H',Inv X pins σ' H' s'/\tn i s'.heap/\(∀b∈fp,H' b=none)/\W i n σ' H') ?_ m0 ⟨0,σ,H2,I2,st2,λb hb=>(f2 b hb).1,w0⟩
 rintro n s3 ⟨i,σ3,H3,I3,st3,fr3,w3⟩;rcases turn i n σ3 H3 w3 with⟨stop,qn⟩ | ⟨go,N,hN,step⟩
 ·refine Yc hp (thn (T.done X rfl rfl rfl hc i pins s3 σ3 H3 X.xe I3 (stat fr3) st3 stop) λr s4 ⟨hr,I4⟩=>?_);subst hr;exact QcW ⟨σ3,H3,I4,qn⟩
 ·refine Yc hp (thn (T.item X rfl rfl rfl hc i pins s3 σ3 H3 X.xe I3 (stat fr3) st3 go) λr s4 ⟨u,hr,h4⟩=>?_);subst hr;refine Yc hp (thn h4 λ_ s5 ⟨x,H5,I5,r5,y5,st5,fr5⟩=>?_);have I5':=I5.pinned (stat fr5) (T.obj _ _ st5);refine Yc hp (thn (hg _ s5 σ3 H5 x u _ I5' r5 (step x H5 y5)) λ_ s6 ⟨σ6,H6,I6,q6⟩=>?_);refine Yc hp (thn (hb _ s6 σ6 H6 _ I6 q6) λf s7 q7=>?_);have again:∀{σ7:St}{H7:Hp},Inv X (pins++Qh6 fp s5.heap) σ7 H7 s7->N σ7 H7->∃m,m<n/\∃i σ' H',Inv X pins σ' H' s7/\tn i s7.heap/\(∀b∈fp,H' b=none)/\W i m σ' H':=λ{σ7 H7} I7 n7=>by
   obtain⟨m',hm,w7⟩:=hN σ7 H7 n7;refine⟨m',hm,i+1,σ7,H7,I7.unpinned,T.keep _ _ _ st5 λb hb o e=>(I7.pin (b,o) (Jk _ (Jk _ (Qbx hb e)))).1,λb hb=>?_,w7⟩;obtain⟨o,e,d⟩:=T.obj _ _ st5 b hb;exact(I7.pin (b,o) (Jk _ (Jk _ (Qbx hb e)))).2.1
  cases f with
  |next=>obtain⟨σ7,H7,I7,n7⟩:=q7;exact again I7 n7
  |cont=>obtain⟨σ7,H7,I7,n7⟩:=q7;exact again I7 n7
  |brk=>obtain⟨σ7,H7,I7,q7⟩:=q7;exact⟨σ7,H7,I7.unpinned,q7⟩
  |ret v=>obtain⟨x7,σ7,H7,I7,r7,q7⟩:=q7;exact⟨x7,σ7,H7,I7.unpinned,r7,q7⟩
end
theorem Qlm{lo:Int}{n:Nat}{g:TG}{tb:TS}{D:Ends}{σ:St}{H:Hp}(Pv:Nat->St->Hp->Prop)(h0:Pv 0 σ H)
  (hs:∀i σ H,i<n->Pv i σ H->g (.int (lo+i)) σ H λσ2 H2=>tb { D with nx:=Pv (i+1),ct:=Pv (i+1),bk:=D.nx } σ2 H2)(hd:∀σ H,Pv n σ H->D.nx σ H) :
  ∃W:Nat->Nat->St->Hp->Prop,(∃m,W 0 m σ H)/\∀i m σ H,W i m σ H ->
   ((Itr lo n).stop i H/\D.nx σ H)∨((Itr lo n).go i H/\∃N:St->Hp->Prop,(∀σ' H',N σ' H'->∃m',m'<m/\W (i+1) m' σ' H')/\∀x H',(Itr lo n).yld i H x H'->g x σ H' λσ2 H2=>tb { D with nx:=N,ct:=N,bk:=D.nx } σ2 H2):=by
 refine⟨λi m σ H=>m=n - i/\i<=n/\Pv i σ H,⟨n,by simp,Js _,h0⟩,?_⟩;rintro i m σ H ⟨rfl,hi,p⟩;by_cases hlt:i<n
 ·refine .inr ⟨hlt,Pv (i+1),λσ' H' p'=>⟨n - (i+1),by omega,rfl,hlt,p'⟩,λx H' y=>?_⟩;obtain⟨e,y⟩:=y;subst e y;exact hs i σ _ hlt p
 ·have e:i=n:=by omega
  subst e;exact .inl ⟨Qh _,hd σ H p⟩
abbrev R2:=V->V->Hp->VK->Prop
def OpR(X:Cx)(f:Value->Value->Sem Value)(r:R2):Prop:=
 ∀(pins:List (Addr×Obj))(s:Shared)(σ:St)(H:Hp)(x y:V)(v u:Value)(Q:VK),Inv X pins σ H s->RelV x v->RelV y u->r x y H Q ->
  wpAny (model X.prog X.w) X.A (f v u) (EP X pins σ Q) X.xe s
def UnR(X:Cx)(f:Value->Sem Value)(r:V->Hp->VK->Prop):Prop:=
 ∀(pins:List (Addr×Obj))(s:Shared)(σ:St)(H:Hp)(x:V)(v:Value)(Q:VK),Inv X pins σ H s->RelV x v->r x H Q ->
  wpAny (model X.prog X.w) X.A (f v) (EP X pins σ Q) X.xe s
def CallR(X:Cx)(f:Value)(r:List V->Hp->VK->Prop):Prop:=
 ∀(pins:List (Addr×Obj))(s:Shared)(σ:St)(H:Hp)(xs:List V)(us:List Value)(Q:VK),Inv X pins σ H s->Vals xs us->r xs H Q ->
  wpAny (model X.prog X.w) X.A (call f us) (EP X pins σ Q) X.xe s
def QyL(X:Cx)(r:V->Hp->(Bool->Hp->Prop)->Prop):Prop:=
 ∀(pins:List (Addr×Obj))(s:Shared)(σ:St)(H:Hp)(x:V)(v:Value)(Q:Bool->Hp->Prop),Inv X pins σ H s->RelV x v->r x H Q ->
  wpAny (model X.prog X.w) X.A (truthy v) (TP X pins σ Q) X.xe s
def tOp(r:R2)(ta tb:TE):TE:=λσ H Q=>ta σ H λx H1=>tb σ H1 λy H2=>r x y H2 Q
def tUn(r:V->Hp->VK->Prop)(ta:TE):TE:=λσ H Q=>ta σ H λx H1=>r x H1 Q
def rI(C:Int->Int->Prop)(g:Int->Int->V):R2:=λx y H Q=>∃i j,x=.int i/\y=.int j/\C i j/\Q (g i j) H
def rI0(g:Int->Int->V):R2:=λx y H Q=>∃i j,x=.int i/\y=.int j/\Q (g i j) H
def rU(g:Int->V):V->Hp->VK->Prop:=λx H Q=>∃i,x=.int i/\Q (g i) H
section
variable{X:Cx}{a b c:QR}{ta tb tc:TE}{pos:Pos}
theorem Qxw(ha:PE X a ta)(hb:PE X b tb){pins:List (Addr×Obj)}{s:Shared}{σ:St}{H:Hp}{R:V->V->Hp->Prop}(I:Inv X pins σ H s)
  (h:ta σ H λx H1=>tb σ H1 λy H2=>R x y H2){Q:Value->Shared->Prop}{f:Value->Value->Sem Value}
  (hf:∀v u s2 x y H2,Inv X pins σ H2 s2->RelV x v->RelV y u->R x y H2->wpAny (model X.prog X.w) X.A (f v u) Q X.xe s2) :
  wpAny (model X.prog X.w) X.A (eval a X.env) (λv s₁=>wpAny (model X.prog X.w) X.A (eval b X.env) (λu s₂=>wpAny (model X.prog X.w) X.A (f v u) Q X.xe s₂) X.xe s₁) X.xe s:=by
 refine thn (ha pins s σ H _ I h) λv s1 ⟨x,H1,I1,r1,q1⟩=>?_
 refine thn (hb pins s1 σ H1 _ I1 q1) λu s2 ⟨y,H2,I2,r2,q2⟩=>?_
 exact hf v u s2 x y H2 I2 r1 r2 q2
theorem QaL{op:QeE}{r:R2}(ho:OpR X (binaryOp op) r)(ha:PE X a ta)(hb:PE X b tb):PE X (.BinOp a op b pos) (tOp r ta tb):=by
 intro pins s σ H Q I h;exact wpAny_BinOp (Qxw ha hb I h λv u s2 x y H2 I2 rx ry q=>ho pins s2 σ H2 x y v u Q I2 rx ry q)
theorem QwJ{op:UnaryOp}{r:V->Hp->VK->Prop}(ho:UnR X (unaryOp op) r)(ha:PE X a ta):PE X (.UnaryOp op a pos) (tUn r ta):=by
 intro pins s σ H Q I h;exact UnaryOp_ (thn (ha pins s σ H _ I h) λv s1 ⟨x,H1,I1,r1,q1⟩=>ho pins s1 σ H1 x v Q I1 r1 q1)
theorem opI{f:Value->Value->Sem Value}{C:Int->Int->Prop}{g:Int->Int->Int}
  (rule:∀(i j:Int)(t u:Tok)(s:Shared)(Q:Value->Shared->Prop)(E:Value->Shared->Prop),C i j->Q (.int (g i j) s.toks) { s with toks:=s.toks+1 }->wpAny (model X.prog X.w) X.A (f (.int i t) (.int j u)) Q E s) :
  OpR X f (rI C λi j=>.int (g i j)):=by
 intro pins s σ H x y v u Q I rx ry h;obtain⟨i,j,rfl,rfl,hc,q⟩:=h;obtain⟨t,rfl⟩:=rx;obtain⟨t',rfl⟩:=ry;exact rule i j t t' s _ _ hc ⟨.int (g i j),H,I.tok _,⟨_,rfl⟩,q⟩
theorem QvG{f:Value->Value->Sem Value}{g:Int->Int->Int}
  (rule:∀(i j:Int)(t u:Tok)(s:Shared)(Q:Value->Shared->Prop)(E:Value->Shared->Prop),Q (.int (g i j) s.toks) { s with toks:=s.toks+1 }->wpAny (model X.prog X.w) X.A (f (.int i t) (.int j u)) Q E s) :
  OpR X f (rI0 λi j=>.int (g i j)):=by
 intro pins s σ H x y v u Q I rx ry h;obtain⟨i,j,rfl,rfl,q⟩:=h;obtain⟨t,rfl⟩:=rx;obtain⟨t',rfl⟩:=ry;exact rule i j t t' s _ _ ⟨.int (g i j),H,I.tok _,⟨_,rfl⟩,q⟩
theorem QvH{f:Value->Value->Sem Value}{g:Int->Int->Bool}
  (rule:∀(i j:Int)(t u:Tok)(s:Shared)(Q:Value->Shared->Prop)(E:Value->Shared->Prop),Q (.bool (g i j)) s->wpAny (model X.prog X.w) X.A (f (.int i t) (.int j u)) Q E s) :
  OpR X f (rI0 λi j=>.bl (g i j)):=by
 intro pins s σ H x y v u Q I rx ry h;obtain⟨i,j,rfl,rfl,q⟩:=h;obtain⟨t,rfl⟩:=rx;obtain⟨t',rfl⟩:=ry;exact rule i j t t' s _ _ ⟨.bl (g i j),H,I,rfl,q⟩
def Qyf(i j:Int):Prop:=0<=j/\j<=1000000/\i.natAbs<2^64
def CMul(i j:Int):Prop:=(-(2^64)<i/\i<2^64)∨(-(2^64)<j/\j<2^64)
theorem CMul.ok{i j:Int}(h:CMul i j):IntMulOk i j:=by
 rcases h with⟨h1,h2⟩ | ⟨h1,h2⟩
 ·exact .of_left (intBits_le_64 h1 h2)
 ·exact .of_right (intBits_le_64 h1 h2)
theorem Qen:OpR X (binaryOp .Add) (rI0 λi j=>.int (i+j)):=QvG λ_ _ _ _ _ _ _ q=>add_int q
theorem Qgb:OpR X (binaryOp .Sub) (rI0 λi j=>.int (i - j)):=QvG λ_ _ _ _ _ _ _ q=>sub_int q
theorem Qem:OpR X (binaryOp .Mult) (rI CMul λi j=>.int (i*j)):=opI λ_ _ _ _ _ _ _ hc q=>mul_int q hc.ok
theorem Qgd:OpR X (binaryOp .Mod) (rI (λ_ j=>0<j) λi j=>.int (i % j)):=opI λi j _ _ _ _ _ hc q=>by
 have h1:(0:Int)<j:=hc;exact mod_int' (by omega) (by rw[Int.fmod_eq_emod_of_nonneg i (by omega)];exact q)
theorem QoO:OpR X (binaryOp .Pow) (rI Qyf λi j=>.int (i^j.toNat)):=opI λ_ _ _ _ _ _ _ hc q=>pow_int_small hc.1 hc.2.1 hc.2.2 q
theorem QkJ:OpR X (binaryOp .LShift) (rI Qyf λi j=>.int (i*2^j.toNat)):=opI λ_ _ _ _ _ _ _ hc q=>lshift_int_small hc.1 hc.2.1 hc.2.2 q
theorem Qum:OpR X (binaryOp .BitAnd) (rI0 λi j=>.int (QbZ i j)):=QvG λ_ _ _ _ _ _ _ q=>and_int q
theorem QwU:OpR X (binaryOp .BitOr) (rI0 λi j=>.int (Qcu i j)):=QvG λ_ _ _ _ _ _ _ q=>or_int q
theorem unI{f:Value->Sem Value}{g:Int->Int}
  (rule:∀(i:Int)(t:Tok)(s:Shared)(Q:Value->Shared->Prop)(E:Value->Shared->Prop),Q (.int (g i) s.toks) { s with toks:=s.toks+1 }->wpAny (model X.prog X.w) X.A (f (.int i t)) Q E s) :
  UnR X f (rU λi=>.int (g i)):=by
 intro pins s σ H x v Q I rx h;obtain⟨i,rfl,q⟩:=h;obtain⟨t,rfl⟩:=rx;exact rule i t s _ _ ⟨.int (g i),H,I.tok _,⟨_,rfl⟩,q⟩
theorem Qtd:UnR X (unaryOp .USub) (rU λi=>.int (-i)):=unI λ_ _ _ _ _ q=>neg_int q
end
def QxG:V->V->Bool
 |.non,.non=>true | .non,.int _=>true | .int _,.non=>true | .non,.bl _=>true | .bl _,.non=>true | .non,.str _=>true | .str _,.non=>true
 |.int _,.int _=>true | .bl _,.bl _=>true | .str _,.str _=>true | .byt _,.byt _=>true
 |.int _,.str _=>true | .str _,.int _=>true | .bl _,.str _=>true | .str _,.bl _=>true
 |_,_=>false
def rEq:R2:=λx y H Q=>QxG x y=true/\Q (.bl (decide (x=y))) H
def rNe:R2:=λx y H Q=>QxG x y=true/\Q (.bl (!decide (x=y))) H
theorem Qlt{i j:Int}:decide (V.int i=V.int j)=(i == j):=by
 rw[J7];simp
theorem Qo9{i j:Bool}:decide (V.bl i=V.bl j)=(i == j):=by
 rw[J7];simp
theorem Qls{i j:Str}:decide (V.str i=V.str j)=(i == j):=by
 rw[J7];simp
theorem Qlu{i j:Array UInt8}:decide (V.byt i=V.byt j)=(i.toList == j.toList):=by
 rw[J7];cases i;cases j;simp
section
variable{X:Cx}{a b c:QR}{ta tb tc:TE}{pos:Pos}
theorem Ze{pins:List (Addr×Obj)}{σ:St}{H:Hp}{s:Shared}{Q:VK}{k k':Bool}(I:Inv X pins σ H s)(q:Q (.bl k) H)(e:k=k'):EP X pins σ Q (.bool k') s:=by
 subst e;exact⟨.bl k,H,I,rfl,q⟩
theorem QrL:OpR X (compareOp .Eq) rEq:=by
 intro pins s σ H x y v u Q I rx ry h;obtain⟨hs,q⟩:=h;cases x with
 |non=>
  cases rx;cases y with
  |non=>cases ry;exact PySem.EqNone.eq_none_none (Ze I q (by simp))
  |bl j=>cases ry;exact PySem.EqNone.eq_none_bool (Ze I q (by simp))
  |int j=>obtain⟨t',rfl⟩:=ry;exact PySem.EqNone.eq_none_int (Ze I q (by simp))
  |str j=>obtain⟨t',rfl⟩:=ry;exact PySem.EqNone.eq_none_str (Ze I q (by simp))
  |_=>exact absurd (show false=true from hs) Qo
 |bl i=>
  cases rx;cases y with
  |non=>cases ry;exact PySem.EqNone.eq_bool_none (Ze I q (by simp))
  |bl j=>cases ry;exact eq_bool (Ze I q Qo9)
  |str j=>obtain⟨t',rfl⟩:=ry;exact PySem.EqMixed.eq_bool_str (Ze I q (by simp))
  |_=>exact absurd (show false=true from hs) Qo
 |int i=>
  obtain⟨t,rfl⟩:=rx;cases y with
  |non=>cases ry;exact PySem.EqNone.eq_int_none (Ze I q (by simp))
  |int j=>obtain⟨t',rfl⟩:=ry;exact eq_int (Ze I q Qlt)
  |str j=>obtain⟨t',rfl⟩:=ry;exact PySem.EqMixed.eq_int_str (Ze I q (by simp))
  |_=>exact absurd (show false=true from hs) Qo
 |str i=>
  obtain⟨t,rfl⟩:=rx;cases y with
  |non=>cases ry;exact PySem.EqNone.eq_str_none (Ze I q (by simp))
  |bl j=>cases ry;exact PySem.EqMixed.eq_str_bool (Ze I q (by simp))
  |int j=>obtain⟨t',rfl⟩:=ry;exact PySem.EqMixed.eq_str_int (Ze I q (by simp))
  |str j=>obtain⟨t',rfl⟩:=ry;exact eq_str (Ze I q Qls)
  |_=>exact absurd (show false=true from hs) Qo
 |byt i=>
  obtain⟨t,rfl⟩:=rx;cases y with
  |byt j=>obtain⟨t',rfl⟩:=ry;exact PySem.W.eq_bytes (Ze I q Qlu)
  |_=>exact absurd (show false=true from hs) Qo
 |_=>cases y<;>exact absurd (show false=true from hs) Qo
theorem QwV:OpR X (compareOp .NotEq) rNe:=by
 intro pins s σ H x y v u Q I rx ry h;obtain⟨hs,q⟩:=h;cases x with
 |non=>
  cases rx;cases y with
  |non=>cases ry;exact PySem.EqNone.ne_none_none (Ze I q (by simp))
  |bl j=>cases ry;exact PySem.EqNone.ne_none_bool (Ze I q (by simp))
  |int j=>obtain⟨t',rfl⟩:=ry;exact PySem.EqNone.ne_none_int (Ze I q (by simp))
  |str j=>obtain⟨t',rfl⟩:=ry;exact PySem.EqNone.ne_none_str (Ze I q (by simp))
  |_=>exact absurd (show false=true from hs) Qo
 |bl i=>
  cases rx;cases y with
  |non=>cases ry;exact PySem.EqNone.ne_bool_none (Ze I q (by simp))
  |bl j=>cases ry;exact ne_bool (Ze I q (congrArg not Qo9))
  |str j=>obtain⟨t',rfl⟩:=ry;exact PySem.EqMixed.ne_bool_str (Ze I q (by simp))
  |_=>exact absurd (show false=true from hs) Qo
 |int i=>
  obtain⟨t,rfl⟩:=rx;cases y with
  |non=>cases ry;exact PySem.EqNone.ne_int_none (Ze I q (by simp))
  |int j=>obtain⟨t',rfl⟩:=ry;exact ne_int (Ze I q (congrArg not Qlt))
  |str j=>obtain⟨t',rfl⟩:=ry;exact PySem.EqMixed.ne_int_str (Ze I q (by simp))
  |_=>exact absurd (show false=true from hs) Qo
 |str i=>
  obtain⟨t,rfl⟩:=rx;cases y with
  |non=>cases ry;exact PySem.EqNone.ne_str_none (Ze I q (by simp))
  |bl j=>cases ry;exact PySem.EqMixed.ne_str_bool (Ze I q (by simp))
  |int j=>obtain⟨t',rfl⟩:=ry;exact PySem.EqMixed.ne_str_int (Ze I q (by simp))
  |str j=>obtain⟨t',rfl⟩:=ry;exact ne_str (Ze I q (congrArg not Qls))
  |_=>exact absurd (show false=true from hs) Qo
 |byt i=>
  obtain⟨t,rfl⟩:=rx;cases y with
  |byt j=>obtain⟨t',rfl⟩:=ry;exact PySem.W.ne_bytes (Ze I q (congrArg not Qlu))
  |_=>exact absurd (show false=true from hs) Qo
 |_=>cases y<;>exact absurd (show false=true from hs) Qo
theorem Qnk:OpR X (compareOp .Lt) (rI0 λi j=>.bl (decide (i<j))):=QvH λ_ _ _ _ _ _ _ q=>lt_int q
theorem QrJ:OpR X (compareOp .LtE) (rI0 λi j=>.bl (decide (i<=j))):=QvH λ_ _ _ _ _ _ _ q=>le_int q
theorem Qui:OpR X (compareOp .Gt) (rI0 λi j=>.bl (decide (j<i))):=QvH λ_ _ _ _ _ _ _ q=>gt_int q
theorem QwW:OpR X (compareOp .GtE) (rI0 λi j=>.bl (decide (j<=i))):=QvH λ_ _ _ _ _ _ _ q=>ge_int q
def isObj:HO->Bool
 |.lst _=>true
 |.ins _ _ _=>true
 |_=>false
theorem obj_there{pins:List (Addr×Obj)}{s:Shared}{σ:St}{H:Hp}{a:Addr}{o:HO}(I:Inv X pins σ H s)(h:H a=some o)(p:isObj o=true):∃ob,s.heap.get? a=some ob/\ob.cls≠.type "tuple" := by
 cases o with
 |lst xs=>
  obtain⟨_,its,n,_,e⟩:xs.length<=sizeLine/\∃(its:List Value)(n:Nat),Vals xs its/\s.heap.get? a=some { cls:=.type "list",data:=.seq its.toArray n }:=I.hok a _ h
  exact⟨_,e,(by show QbV "list" ≠ .type "tuple";decide +kernel)⟩
 |ins C dx fs=>
  have x:=I.hok a _ h;obtain⟨_,_,_,e,_⟩:=x;exact⟨_,e,(by show JP C≠.type "tuple";exact λz=>by cases z)⟩
 |_=>exact absurd (show false=true from p) Qo
theorem OpR.or{f:Value->Value->Sem Value}{r r':R2}(h:OpR X f r)(h':OpR X f r'):OpR X f (λx y H Q=>r x y H Q∨r' x y H Q):=by
 intro pins s σ H x y v u Q I rx ry q;rcases q with q | q
 ·exact h pins s σ H x y v u Q I rx ry q
 ·exact h' pins s σ H x y v u Q I rx ry q
theorem J3(b:QR){op:Qpw}(h:op≠.In:=by decide)(h2:op≠.NotIn:=by decide):behindInMarks op b=false:=by
 have e1:(op == CmpOp.In)=false:=by cases op<;>first | rfl | exact absurd rfl h
 have e2:(op == CmpOp.NotIn)=false:=by cases op<;>first | rfl | exact absurd rfl h2
 cases b<;>simp[behindInMarks,e1,e2]
theorem Qg7{op:Qpw}{r:R2}(ho:OpR X (compareOp op) r)(ha:PE X a ta)(hb:PE X b tb)(hm:behindInMarks op b=false):PE X (.Compare a [op] [b] pos) (tOp r ta tb):=by
 intro pins s σ H Q I h;exact wpAny_Compare1 (Qxw ha hb I h λv u s2 x y H2 I2 rx ry q=>ho pins s2 σ H2 x y v u Q I2 rx ry q) hm
def QpF(t:TE):TT:=λσ H Q=>t σ H λx H'=>∃k,x=.bl k/\Q k H'
theorem Qbl{op:Qpw}{r:R2}(ho:OpR X (compareOp op) r)(ha:PE X a ta)(hb:PE X b tb)(hm:behindInMarks op b=false):PT X (.Compare a [op] [b] pos) (QpF (tOp r ta tb)):=by
 intro pins s σ H Q I h;refine wpAny_isTrue_Compare1 (thn (ha pins s σ H _ I h) λv s1 ⟨x,H1,I1,r1,q1⟩=>thn (hb pins s1 σ H1 _ I1 q1) λu s2 ⟨y,H2,I2,r2,q2⟩=>
  thn (ho pins s2 σ H2 x y v u _ I2 r1 r2 q2) λc s3 ⟨z,H3,I3,r3,k,e,q3⟩=>?_) hm
 subst e;cases r3;exact ZE ⟨H3,I3,q3⟩
def Qou(r r':R2)(ta tb tc:TE):TE:=λσ H Q=>ta σ H λx H1=>tb σ H1 λy H2=>r x y H2 λz H3=>∃k,z=.bl k /\
 (if k=true then tc σ H3 λw' H4=>r' y w' H4 Q else Q (.bl false) H3)
theorem QmV{op op':Qpw}{r r':R2}(ho:OpR X (compareOp op) r)(ho':OpR X (compareOp op') r')(ha:PE X a ta)(hb:PE X b tb)(hc:PE X c tc)
  (hm:lastMarks [op,op'] [b,c]=false:=by with_unfolding_all rfl):PE X (.Compare a [op,op'] [b,c] pos) (Qou r r' ta tb tc):=by
 intro pins s σ H Q I h;refine Compare_chain (thn (ha pins s σ H _ I h) λv s1 ⟨x,H1,I1,r1,q1⟩=>chain_link (thn (hb pins s1 σ H1 _ I1 q1) λu s2 ⟨y,H2,I2,r2,q2⟩=>
  thn (ho pins s2 σ H2 x y v u _ I2 r1 r2 q2) λd s3 ⟨z,H3,I3,r3,k,e,q3⟩=>?_)) hm
 subst e;cases r3;refine ZE ?_
 cases k with
 |false=>exact ite_ff ⟨.bl false,H3,I3,rfl,q3⟩
 |true=>exact ite_tt (chain_last (thn (hc pins s3 σ H3 _ I3 q3) λw' s4 ⟨z',H4,I4,r4,q4⟩=>ho' pins s4 σ H4 y z' u w' Q I4 r2 r4 q4))
def Qxy(K:PySem.W.Frag)(x:V)(H:Hp)(k:Bool):Prop:=
 match x with
 |.non=>k=false
 |.bl b=>k=b
 |.int i=>k=(i != 0)
 |.str y=>y.length<=sizeLine/\k=((y.length:Int) != 0)
 |.byt y=>y.size<=sizeLine/\k=((y.size:Int) != 0)
 |.ref p=>(∃xs,SqL K H p xs/\k = !xs.isEmpty)∨(∃xs,SqT K H p xs/\k = !xs.isEmpty)∨∃kvs,H p=some (.dK kvs)/\k = !kvs.isEmpty
 |_=>False
theorem Qi6{κ:Type}{kvs:List (κ×V)}{vs:List (κ×Value)}(r:KV kvs vs):(!vs.isEmpty) = !kvs.isEmpty:=by
 cases r<;>rfl
theorem Qeu{xs:List V}{its:List Value}(r:Vals xs its):(!its.toArray.isEmpty) = !xs.isEmpty:=by
 cases r<;>simp
theorem Qdv:(sizeLine:Nat)<2^63:=by rw[Y7];decide
theorem Qtg:QyL X (λx H Q=>∃k,Qxy X.K x H k/\Q k H):=by
 intro pins s σ H x v Q I rx h;obtain⟨k,e,q⟩:=h;have hl:=Qdv;have hs:sizeLine=16777216:=Y7;cases x with
 |non=>
  cases rx;have e':k=false:=e;subst e';exact truthy_none ⟨H,I,q⟩
 |bl b=>
  cases rx;have e':k=b:=e;subst e';exact ZE ⟨H,I,q⟩
 |int i=>
  obtain⟨t,rfl⟩:=rx;have e':k=(i != 0):=e;subst e';exact PySem.P.truthy_int ⟨H,I,q⟩
 |str y=>
  obtain⟨t,rfl⟩:=rx;obtain⟨hy,e'⟩:y.length<=sizeLine/\k=((y.length:Int) != 0):=e;subst e';exact PySem.P.truthy_str (by omega) ⟨H,I.tok _,q⟩
 |byt y=>
  obtain⟨t,rfl⟩:=rx;obtain⟨hy,e'⟩:y.size<=sizeLine/\k=((y.size:Int) != 0):=e;subst e';exact PySem.W.truthy_bytes (by omega) ⟨H,I.tok _,q⟩
 |ref p=>
  cases rx;have e':(∃xs,SqL X.K H p xs/\k = !xs.isEmpty)∨(∃xs,SqT X.K H p xs/\k = !xs.isEmpty)∨∃kvs,H p=some (.dK kvs)/\k = !kvs.isEmpty:=e
  rcases e' with⟨xs,hx,e'⟩ | ⟨xs,hx,e'⟩ | ⟨kvs,hx,e'⟩
  ·subst e';obtain⟨its,r,pl,hz⟩:=I.list hx;have hlen:=r.length;exact wpAny_truthy_list pl.isList (by simp only[Qj];omega) ⟨H,I.tok _,by rw[Qeu r];exact q⟩
  ·subst e';obtain⟨its,r,pl,hz⟩:=I.tuple hx;have hlen:=r.length;exact truthy_tuple pl (by simp only[Qj];omega) ⟨H,I.tok _,by rw[Qeu r];exact q⟩
  ·subst e';obtain⟨hz,hS,vs,r,m⟩:kvs.length<=sizeLine/\(p == sysModules)=false/\∃vs,KV kvs vs/\s.heap.DictOf (mixKind X.prog X.w) p vs:=I.hok p _ hx
   have hlen:kvs.length=vs.length:=QgJ r;exact wpAny_truthy_dict hS m (by omega) ⟨H,I.tok _,by rw[Qi6 r];exact q⟩
 |_=>exact(show False from e).elim
theorem QmM(ha:PE X a ta)(he:∀whole,isTrue a X.env whole=(do let v <- whole;standAt a.pos;holding [v] (truthy v))) :
  PT X a (λσ H Q=>ta σ H λx H'=>∃k,Qxy X.K x H' k/\Q k H'):=by
 intro pins s σ H Q I h;exact isTrue_plain (thn (ha pins s σ H _ I h) λv s1 ⟨x,H1,I1,r1,q1⟩=>Qtg pins s1 σ H1 x v Q I1 r1 q1) (he _)
theorem vals1{x:V}{us:List Value}(r:Vals [x] us):∃u,us=[u]/\RelV x u:=by
 cases r with
 |cons r1 r2=>cases r2;exact⟨_,rfl,r1⟩
theorem vals2{x y:V}{us:List Value}(r:Vals [x,y] us):∃u w',us=[u,w']/\RelV x u/\RelV y w':=by
 cases r with
 |cons r1 r2=>
  cases r2 with
  |cons r3 r4=>cases r4;exact⟨_,_,rfl,r1,r3⟩
theorem QlK(hc:X.calm=true):CallR X (.builtin "max") (λxs H Q=>∃i j,xs=[.int i,.int j]/\Q (.int (if j > i then j else i)) H):=by
 intro pins s σ H xs us Q I r h;obtain⟨i,j,rfl,q⟩:=h;obtain⟨u,w',rfl,⟨t,rfl⟩,⟨t',rfl⟩⟩:=vals2 r;refine max_two_ints (I.ok.hd hc) λh' tk k=>⟨_,H,I.kept k,?_,q⟩
 by_cases hj:j > i
 ·rw[if_pos hj,if_pos hj];exact⟨_,rfl⟩
 ·rw[if_neg hj,if_neg hj];exact⟨_,rfl⟩
theorem Qgv(hc:X.calm=true):CallR X (.builtin "min") (λxs H Q=>∃i j,xs=[.int i,.int j]/\Q (.int (if j<i then j else i)) H):=by
 intro pins s σ H xs us Q I r h;obtain⟨i,j,rfl,q⟩:=h;obtain⟨u,w',rfl,⟨t,rfl⟩,⟨t',rfl⟩⟩:=vals2 r;refine min_two_ints (I.ok.hd hc) λh' tk k=>⟨_,H,I.kept k,?_,q⟩
 by_cases hj:j<i
 ·rw[if_pos hj,if_pos hj];exact⟨_,rfl⟩
 ·rw[if_neg hj,if_neg hj];exact⟨_,rfl⟩
end
structure ObjM (h:JR) (x dx C:Addr) (mA:Str->Option Value):Prop where
 obj:h.get? x=some (PySem.W.instObj C dx)
 ns:h.Ns1 dx mA
 ne:dx≠x
theorem Qk6{h:JR}{dx:Addr}{mA:Str->Option Value}(n:h.Ns1 dx mA):∃od,h.get? dx=some od/\∀name,PySem.W.lookIn name od=some (mA name):=by
 obtain⟨o,es,ep,ho,hd,hk,_,hm⟩:=n;refine⟨o,ho,λname=>?_⟩;have e:=hm name;unfold nsFind findBy at e;rw[<- Array.find?_toList] at e;unfold PySem.W.lookIn;rw[hd]
 dsimp only
 split
 ·rename_i y q
  rw[q] at e;exact congrArg some e
 ·rename_i q
  rw[q] at e;have a:es.toList.any (·.refKey)=false:=by
   rw[List.any_eq_false];intro y hy;obtain⟨z,t,hkey⟩:=hk y (Qjv.mp hy);simp[DictEntry.refKey,hkey]
  have a':¬es.toList.any (·.refKey)=true:=by rw[a];exact Qo
  rw[if_neg a'];exact congrArg some e
theorem ObjM.look{h:JR}{x dx C:Addr}{mA:Str->Option Value}(I:ObjM h x dx C mA):∃od,PySem.W.InstAt h x (PySem.W.instObj C dx) C (some od)/\∀name,PySem.W.lookIn name od=some (mA name):=
 let ⟨od,ho,hl⟩:=Qk6 I.ns
 ⟨od,⟨I.obj,rfl,rfl,ho⟩,hl⟩
section
variable{prog:Qz}{w:Jf}{A:Jb}{E:Value->Shared->Prop}{s:Shared}{K:PySem.W.Frag}{x dx C f:Addr}{mA:Str->Option Value}{name:Str}{v:Value}
end
section
variable{P:Qz}{w:Jf}{H H':Hp}{h h':JR}{a C dx:Addr}{fs fs':List (Str×V)}
theorem Qsd(hok:HOk P w H h)(e:H a=some (.ins C dx fs)):∃mA,ObjM h a dx C mA/\(∀f,Qxz (fs.lookup f) (mA f))/\PySem.Within mA (fs.map (·.1))/\fs.length<=1000/\H dx=some (.own a):=by
 obtain⟨d,z,ne,ob,mA,n,r,q⟩:=(show ObjOk P w H h a (.ins C dx fs) from hok a _ e);exact⟨mA,⟨ob,n,ne⟩,r,q,z,d⟩
end
structure Cls (K:PySem.W.Frag) (C:Addr):Prop where
 pg:PySem.W.plainGet K C Str.empty=true
 hd:PySem.W.hasDictIn K C=true
 po:PySem.W.plainOver K C=true
 sa:PySem.W.findIn K (.ref C) "__setattr__" = some (some (.builtin "object.__setattr__"))
theorem Cls.get{K:PySem.W.Frag}{C:Addr}(c:Cls K C)(f:Str):PySem.W.plainGet K C f=true:=c.pg
section
variable{X:Cx}{pins:List (Addr×Obj)}{σ:St}{H:Hp}{s:Shared}{a C dx:Addr}{fs:List (Str×V)}{f:Str}{v:V}{A:Jb}{E:Value->Shared->Prop}
end
section
variable{X:Cx}{o e value:QR}{f:Str}{pos pos' tpos:Pos}{ta tv:TE}
def rAdd:V->V->Hp->VK->Prop:=λx y H Q=>∃i j,x=.int i/\y=.int j/\Q (.int (i+j)) H
end
section
variable{X:Cx}{pins:List (Addr×Obj)}{σ:St}{H:Hp}{s:Shared}{A:Jb}{E:Value->Shared->Prop}{Q:Value->Shared->Prop}{c:Value}{b:Bool}
inductive TyOf (K:PySem.W.Frag) (H:Hp):V->Value->Prop where
 |non:TyOf K H .non (.type "NoneType")
 |bl (x:Bool):TyOf K H (.bl x) (.type "bool")
 |int (i:Int):TyOf K H (.int i) (.type "int")
 |str (x:Str):TyOf K H (.str x) (.type "str")
 |flt (x:UInt64):TyOf K H (.flt x) (.type "float")
 |lst {a:Addr} {xs:List V} (e:H a=some (.lst xs)):TyOf K H (.ref a) (.type "list")
 |frz {a:Addr} {o:Obj} {xs:List V} (e:H a=some (.frz o (.lst xs))):TyOf K H (.ref a) (.type "list")
 |tup {a:Addr} {xs:List V} (e:H a=some (.tup xs)):TyOf K H (.ref a) (.type "tuple")
 |dK {a:Addr} {kvs:List (Key×V)} (e:H a=some (.dK kvs)):TyOf K H (.ref a) (.type "dict")
 |dT {a:Addr} {kvs:List (List Key×V)} (e:H a=some (.dT kvs)):TyOf K H (.ref a) (.type "dict")
 |ins {a C dx:Addr} {fs:List (Str×V)} (e:H a=some (.ins C dx fs)) (cl:Cls K C) (ha:PySem.W.findIn K (.ref C) "__class__" = some (some (.builtin "object.__class__")))
   (hn:PySem.W.specialIn K (.builtin "object.__class__") "__get__" = some (some (.builtin "getset_descriptor.__get__"))) (htk:PySem.W.takesIn K (.builtin "object.__class__")=some true)
   (hm:PySem.W.mroIn K C (.type "object")=some true):TyOf K H (.ref a) (.ref C)
theorem Qlb{x:V}{u t:Value}(I:Inv X pins σ H s)(rx:RelV x u)(ty:TyOf X.K H x t)(e:PySem.W.kitOne X.K t c=some b)(h:∀tk,Q (.bool b) { s with toks:=tk }) :
  wpAny (model X.prog X.w) A (call (.builtin "isinstance") [u,c]) Q E s:=by
 cases ty with
 |non=>cases(show u=Jz from rx);exact PySem.W.kia_one PySem.W.kitx_none I.kIn QdO e (λz=>nomatch z) h
 |bl y=>cases(show u=Qa2 y from rx);exact PySem.W.kia_one PySem.W.kitx_bool I.kIn QdO e (λz=>nomatch z) h
 |int i=>obtain⟨t,q⟩:=(show ∃t,u=Qa1 i t from rx);cases q;exact PySem.W.kia_one PySem.W.kitx_int I.kIn QdO e (λz=>nomatch z) h
 |str y=>obtain⟨t,q⟩:=(show ∃t,u=Qpl y t from rx);cases q;exact PySem.W.kia_one PySem.W.kitx_str I.kIn QdO e (λz=>nomatch z) h
 |flt y=>obtain⟨t,q⟩:=(show ∃t,u=QvY y t from rx);cases q;exact PySem.W.kia_one PySem.W.kitx_float I.kIn QdO e (λz=>nomatch z) h
 |@lst a xs ea=>
  cases(show u=JP a from rx);obtain⟨_,_,n,_,h1⟩:=(show ObjOk X.prog X.w H s.heap a (.lst xs) from I.hok a _ ea);exact PySem.W.kia_one PySem.W.kitx_list I.kIn ⟨_,h1,rfl⟩ e (λz=>nomatch z) h
 |@frz a ob xs ea=>
  cases(show u=JP a from rx);obtain⟨_,_,_,n,_,h1⟩:=(show ObjOk X.prog X.w H s.heap a (.frz ob (.lst xs)) from I.hok a _ ea);exact PySem.W.kia_one PySem.W.kitx_list I.kIn ⟨_,h1,rfl⟩ e (λz=>nomatch z) h
 |@tup a xs ea=>
  cases(show u=JP a from rx);obtain⟨_,_,_,p⟩:=(show ObjOk X.prog X.w H s.heap a (.tup xs) from I.hok a _ ea);obtain⟨o,h1,h2,_⟩:=p;exact PySem.W.kia_one PySem.W.kitx_tuple I.kIn ⟨o,h1,h2⟩ e (λz=>nomatch z) h
 |@dK a kvs ea=>
  cases(show u=JP a from rx);obtain⟨_,_,vs,_,p⟩:=(show ObjOk X.prog X.w H s.heap a (.dK kvs) from I.hok a _ ea);obtain⟨o,es,ep,h1,h2,_⟩:=p;exact PySem.W.kia_one PySem.W.kitx_dict I.kIn ⟨o,h1,h2.1⟩ e (λz=>nomatch z) h
 |@dT a kvs ea=>
  cases(show u=JP a from rx);obtain⟨_,_,xs,_,o,es,ep,h1,h2,_⟩:=(show ObjOk X.prog X.w H s.heap a (.dT kvs) from I.hok a _ ea);exact PySem.W.kia_one PySem.W.kitx_dict I.kIn ⟨o,h1,h2.1⟩ e (λz=>nomatch z) h
 |@ins a C dx fs ea cl ha hn htk hm=>
  cases(show u=JP a from rx);obtain⟨mA,O,_⟩:=Qsd I.hok ea;obtain⟨od,J,_⟩:=O.look;exact PySem.W.kia_one (PySem.W.kitx_own (cl.get _) cl.hd ha hn htk hm) I.kIn J e (λz=>nomatch z) h
end
structure Room (k:Nat) (A:Jb):Prop where
 hd:A.handled=none
 dp:A.depth+3*k+5<recursionLimit
 un:A.units+16*k+200<cLine
theorem Room.mono{j k:Nat}{A:Jb}(r:Room k A)(h:j<=k):Room j A:=⟨r.hd,by have:=r.dp;omega,by have:=r.un;omega⟩
theorem Room.deeper{k:Nat}{A:Jb}(r:Room (k+1) A)(env:Env):Room k (A.deeper env):=
 ⟨r.hd,by have:=r.dp;show A.depth+1+3*k+5<_;omega,by have:=r.un;show A.units+3+16*k+200<_;omega⟩
theorem Room.depth{k:Nat}{A:Jb}(r:Room k A):A.depth<recursionLimit:=by have:=r.dp;omega
theorem Room.units{k:Nat}{A:Jb}(r:Room k A):A.units+64<cLine:=by have:=r.un;omega
def QjU:TA:=λ_ H Q=>Q [] H
def Qa5(ta:TE)(tr:TA):TA:=λσ H Q=>ta σ H λx H1=>tr σ H1 λxs H2=>Q (x::xs) H2
section
variable{X:Cx}{e:QR}{es:List QR}{te:TE}{t:TA}{pos:Pos}
theorem JA:PA X [] QjU:=λ_ _ _ _ H Q I h=>Qmj ⟨[],H,I,.nil,h⟩
theorem JD(ha:PE X e te)(hr:PA X es t)(hs:starEach (e::es) X.env=(false,eval e X.env)::starEach es X.env:=by rfl):PA X (e::es) (Qa5 te t):=by
 intro pos pins s σ H Q I h;rw[hs];show wpAny _ _ (spliced ((false,eval e X.env)::backTo pos (starEach es X.env))) _ _ s;refine Ql5 (thn (ha pins s σ H _ I h) λu s1 ⟨x,H1,I1,r1,q1⟩=>?_);exact thn (hr pos pins s1 σ H1 _ I1 q1) λus s2 ⟨xs,H2,I2,r2,q2⟩=>⟨x::xs,H2,I2,.cons r1 r2,q2⟩
def Qyl(t:TA):TE:=λσ H Q=>t σ H λxs H1=>xs.length<=sizeLine/\∀p,H1 p=none->Q (.ref p) (upd H1 p (.lst xs))
theorem QoK(h:PA X es t):PE X (.List es pos) (Qyl t):=by
 intro pins s σ H Q I hq;refine Qvs (thn (h pos pins s σ H _ I hq) λus s1 ⟨xs,H1,I1,r,z,q⟩=>⟨by rw[<- r.length];exact z,?_⟩);have hf:H1 s1.heap.objs.size=none:=I1.hok.fresh (Qh _);refine⟨.ref s1.heap.objs.size,upd H1 s1.heap.objs.size (.lst xs),I1.laid (t':=s1.toks) (λb u e=>Qc _ e) (Qh _) ?_,rfl,q _ hf⟩;exact⟨z,us,0,r,Qu _ rfl⟩
end
abbrev Sp:=List V->Hp->VK->XK->Prop
abbrev CXT:=List Env->Hp->Shared->XK->Value->Shared->Prop
structure Env0 (P:Qz) (w:Jf) (K:PySem.W.Frag) (mg:Str->Option Value) (base:JR) (A:Jb) (outer:List Env) (s:Shared) (H:Hp):Prop where
 frames:A.frames=some outer
 mod:Mod K mg base
 bs:∀b o,base.get? b=some o->s.heap.get? b=some o/\H b=none
 bsz:base.objs.size<=s.heap.objs.size
 funs:s.heap.FunFrames base outer
 frf:∀b∈frs outer,H b=none
 hok:HOk P w H s.heap
 bare:QcZ s.gens
def CE(outer:List Env)(P:Qz)(w:Jf)(H:Hp)(s:Shared)(Q:VK)(u:Value)(s':Shared):Prop:=
 ∃v H',s'.os=s.os/\QcZ s'.gens/\Un (frs outer) [] H H' s.heap s'.heap/\HOk P w H' s'.heap/\RelV v u/\Q v H'
def CR(CX:CXT)(outer:List Env)(P:Qz)(w:Jf)(H:Hp)(s:Shared)(Q:VK)(E:XK)(r:Result)(s':Shared):Prop:=
 match r with
 |.ok (.ret u)=>CE outer P w H s Q u s'
 |.ok _=>False
 |.error e=>CX outer H s E e s'
structure FnOk (P:Qz) (w:Jf) (K:PySem.W.Frag) (mg:Str->Option Value) (base:JR) (CX:CXT) (k:Nat) (f:Addr) (fd:QN) (ps:List Str) (sp:Sp):Prop where
 len:∀vs H Q E,sp vs H Q E->vs.length=ps.length
 run:∀(A:Jb)(outer:List Env)(s:Shared)(H:Hp)(args:Args)(us:List Value)(vs:List V)(Q:VK)(E:XK),Room k A->Env0 P w K mg base A outer s H->Qmk s fd args (ps.zip us)->Vals vs us->sp vs H Q E ->
  codeAny (model P w) A (.call (.ref f) args) (CR CX outer P w H s Q E) s
theorem FnOk.imp{P:Qz}{w:Jf}{K:PySem.W.Frag}{mg:Str->Option Value}{base:JR}{CX:CXT}{k:Nat}{f:Addr}{fd:QN}{ps:List Str}{sp sp':Sp}(F:FnOk P w K mg base CX k f fd ps sp)
  (h:∀vs H Q E,sp' vs H Q E->sp vs H Q E):FnOk P w K mg base CX k f fd ps sp':=
 ⟨λvs H Q E q=>F.len vs H Q E (h _ _ _ _ q),λA outer s H args us vs Q E hr he hb hv hs=>F.run A outer s H args us vs Q E hr he hb hv (h _ _ _ _ hs)⟩
section
variable{X:Cx}{pins:List (Addr×Obj)}{σ:St}{H:Hp}{s s':Shared}
theorem Inv.env0(I:Inv X pins σ H s):Env0 X.prog X.w X.K X.mg X.base X.A X.stack s H:=
 ⟨I.ok.frames,I.ok.mod,I.bs,QJ I.ok.bsz I.sz,I.stack,I.stkFree,I.hok,I.bare⟩
theorem Inv.after{Q:VK}{u:Value}(I:Inv X pins σ H s)(h:CE X.stack X.prog X.w H s Q u s'):EP X pins σ Q u s':=by
 obtain⟨v,H',os,bare,un,hok,r,q⟩:=h;obtain⟨hh,g,d,t,os'⟩:=s';obtain rfl:os'=s.os:=os;exact⟨v,H',I.call (h':=hh) (g':=g) (d':=d) (t':=t) (ch:=[]) un hok bare (λb z=>absurd z (by simp)),r,q⟩
end
def QpH(sp:Sp)(dvs:List V)(E:XK)(t:TA):TE:=λσ H Q=>t σ H λvs H1=>sp (vs++dvs) H1 Q E
def Binds(K:PySem.W.Frag)(fd:QN)(ps:List Str)(ds:List Value):Prop:=
 ∀(s:Shared)(us:List Value),K.In s.heap->(us++ds).length=ps.length->Qmk s fd ⟨us,[]⟩ (ps.zip (us++ds))
theorem Binds.all{K:PySem.W.Frag}{fd:QN}{ps:List Str}(h:∀us:List Value,us.length=ps.length->bindArgs fd ⟨us,[]⟩=pure (ps.zip us)):Binds K fd ps []:=λs us _ hl=>by
 rw[ZV] at hl ⊢;exact .of_eq (h us hl)
def Qcm(CX:CXT)(X:Cx)(E:XK):Prop:=∀(pins:List (Addr×Obj))(σ:St)(H:Hp)(s:Shared)(e:Value)(s':Shared),Inv X pins σ H s->CX X.stack H s E e s'->X.xe e s'
section
variable{X:Cx}{CX:CXT}{k:Nat}{f C:Addr}{fd:QN}{ps:List Str}{sp:Sp}{dvs:List V}{ds:List Value}{E:XK}{x m:Str}{p pos apos:Pos}{e o:QR}{es:List QR}{ta:TE}{t:TA}
theorem QtB{pins:List (Addr×Obj)}{σ:St}{H:Hp}{s:Shared}{Q:VK}{us:List Value}{vs:List V}(F:FnOk X.prog X.w X.K X.mg X.base CX k f fd ps sp)(hr:Room k X.A)(hb:Binds X.K fd ps ds)(hd:Vals dvs ds)(hx:Qcm CX X E)
  (I:Inv X pins σ H s)(r:Vals vs us)(h:sp (vs++dvs) H Q E):wpAny (model X.prog X.w) X.A (call (.ref f) us) (EP X pins σ Q) X.xe s:=by
 have r2:Vals (vs++dvs) (us++ds):=r.append hd;have hl:(us++ds).length=ps.length:=by rw[<- r2.length];exact F.len _ _ _ _ h
 refine wpAny_call (QgH (F.run X.A X.stack s H ⟨us,[]⟩ (us++ds) (vs++dvs) Q E hr I.env0 (hb s us I.kIn hl) r2 h) λr s' hq=>?_);cases r with
 |error e=>exact hx pins σ H s e s' I hq
 |ok fl=>
  cases fl with
  |ret u=>exact I.after hq
  |next=>exact ZK hq
  |brk=>exact ZK hq
  |cont=>exact ZK hq
theorem QcH(F:FnOk X.prog X.w X.K X.mg X.base CX k f fd ps sp)(hr:Room k X.A)(hg:Gl X x)(hm:X.mg x=some (.ref f))(hk:PySem.W.keepIn X.K (.ref f)=true)(hb:Binds X.K fd ps ds)(hd:Vals dvs ds)(hx:Qcm CX X E)
  (ha:PA X (e::es) t)(hdb:(x == ("__debug__" : Str))=false:=by decide)(he:starEach (e::es) X.env=(false,eval e X.env)::starEach es X.env:=by rfl)(hpl:(backTo pos (starEach es X.env)).any (·.1)=false:=by rfl) :
  PE X (.Call (.Name x p) (e::es) [] pos) (QpH sp dvs E t):=by
 intro pins s σ H Q I h;refine Qbr (Qhf I hg hm ?_ hdb);refine PySem.W.callWith_K (h₀:=X.base) I.ok.mod.kin hk (thn (ha pos pins s σ H _ I h) λus s1 ⟨vs,H1,I1,r,q⟩=>⟨I1.kIn,?_⟩) he hpl;exact QtB F hr hb hd hx I1 r q
end
section
variable{X:Cx}{CX:CXT}{k:Nat}{f C:Addr}{fd:QN}{ps ks:List Str}{sp:Sp}{E:XK}{x m:Str}{p pos apos kpos:Pos}{e o:QR}{es:List QR}{kws:List Qac}{te ta:TE}{t tk:TA}{nm:Option Str}
variable{g:List Value->List Value->List Value}{gV:List V->List V->List V}
end
structure Jq (N P:List Str) (sc:YW):Prop where
 kind:sc.kind=.function
 co:sc.isCoroutine=false
 gen:sc.isGenerator=false
 nd:N.Nodup
 pre:N.take P.length=P
 par:∀x∈P,sc.names.lookup x=some .local∨sc.names.lookup x=some .cell
 nofree:∀y∈sc.names,y.2≠.free
theorem Qgz{kindOf:Str->Option Qaf}{x:Str}:∀{binds:List (Str×Value)}{m:Str->Option Value},(∀v,(x,v)∉binds)->bindL kindOf binds m x=m x
 |[],_,_=>rfl
 |(n,v)::r,m,h=>by
  unfold bindL;rw[Qgz λw hw=>h w (Q0 _ hw)];split
  ·have:x≠n:=by rintro rfl;exact h v QV
   simp[this]
  ·rfl
theorem QgB{kindOf:Str->Option Qaf}{x:Str}:∀{binds:List (Str×Value)}{m:Str->Option Value},(∀v,(x,v)∉binds)->bindC kindOf binds m x=m x
 |[],_,_=>rfl
 |(n,v)::r,m,h=>by
  unfold bindC;rw[QgB λw hw=>h w (Q0 _ hw)];split
  ·rfl
  ·have:x≠n:=by rintro rfl;exact h v QV
   simp[this]
theorem QgA{kindOf:Str->Option Qaf}{x:Str}{v:Value}:∀{P:List Str}{vs:List Value}{i:Nat}{m:Str->Option Value},P.Nodup->P[i]? = some x->vs[i]? = some v->kindOf x=some .local ->
  bindL kindOf (P.zip vs) m x=some v
 |[],_,_,_,_,h,_,_=>by simp at h
 |_::_,[],_,_,_,_,h,_=>by simp at h
 |p::P,w::vs,0,m,nd,h1,h2,hk=>by
  simp at h1 h2;subst h1;subst h2;show bindL kindOf ((p,w)::P.zip vs) m p=_;unfold bindL;rw[Qgz λv hv=>(JI.mp nd).1 (Qft hv).1,if_pos hk];simp
 |p::P,w::vs,i+1,m,nd,h1,h2,hk=>by
  show bindL kindOf ((p,w)::P.zip vs) m x=_;unfold bindL;exact QgA (i:=i) (JI.mp nd).2 (by simpa using h1) (by simpa using h2) hk
theorem QgC{kindOf:Str->Option Qaf}{x:Str}{v:Value}:∀{P:List Str}{vs:List Value}{i:Nat}{m:Str->Option Value},P.Nodup->P[i]? = some x->vs[i]? = some v->kindOf x≠some .local ->
  bindC kindOf (P.zip vs) m x=some v
 |[],_,_,_,_,h,_,_=>by simp at h
 |_::_,[],_,_,_,_,h,_=>by simp at h
 |p::P,w::vs,0,m,nd,h1,h2,hk=>by
  simp at h1 h2;subst h1;subst h2;show bindC kindOf ((p,w)::P.zip vs) m p=_;unfold bindC;rw[QgB λv hv=>(JI.mp nd).1 (Qft hv).1,if_neg hk];simp
 |p::P,w::vs,i+1,m,nd,h1,h2,hk=>by
  show bindC kindOf ((p,w)::P.zip vs) m x=_;unfold bindC;exact QgC (i:=i) (JI.mp nd).2 (by simpa using h1) (by simpa using h2) hk
def start(N:List Str)(vs:List V):St:=vs.map some++Q4 (N.length - vs.length) none
def QlA(CX:CXT)(P:Qz)(w:Jf)(K:PySem.W.Frag)(mg:Str->Option Value)(base:JR)(N:List Str)(qual:Str)(scope:YW)(f:Addr)(cd:Value)(A:Jb)(outer:List Env)(s:Shared)(H:Hp)(E:XK):Cx where
 prog:=P
 w:=w
 K:=K
 mg:=mg
 base:=base
 A:=A.deeper (envOfC qual scope s.heap.objs.size f cd)
 N:=N
 s₀:=s
 H₀:=H
 env:=envOfC qual scope s.heap.objs.size f cd
 outer:=outer
 stack:=envOfC qual scope s.heap.objs.size f cd::outer
 ex:=[]
 calm:=true
 fn:=λ_=>true
 pn:=[]
 xe:=λe s'=>wpAny (model P w) (A.deeper (envOfC qual scope s.heap.objs.size f cd)) (leaving (envOfC qual scope s.heap.objs.size f cd) e) (λ_ s''=>CX outer H s E e s'') (λe' s''=>CX outer H s E e' s'') s'
theorem Qip{sc:YW}{n:Nat}{x:Str}(h:sc.names.lookup x=some .cell):∃c,(cellsFrom n sc.names []).lookup x=some c:=by
 have q:=PySem.W.cellsFrom_some sc.names n [] (.inl h);exact Option.isSome_iff_exists.mp q
theorem Qlc{CX:CXT}{P:Qz}{w:Jf}{K:PySem.W.Frag}{mg:Str->Option Value}{base:JR}{N ps:List Str}{qual:Str}{scope:YW}{f:Addr}{cd:Value}{A:Jb}{outer:List Env}{s s1:Shared}{H:Hp}{E:XK}{us:List Value}{vs:List V}
  (S:Jq N ps scope)(hd:A.handled=none)(e0:Env0 P w K mg base A outer s H)(hl:vs.length=ps.length)(r:Vals vs us)
  (x:InCallC s s.heap.objs.size (bindL (envOfC qual scope s.heap.objs.size f cd).kindOf (ps.zip us) λ_=>none) (cellsFrom (s.heap.objs.size+1) scope.names []) (bindC (envOfC qual scope s.heap.objs.size f cd).kindOf (ps.zip us) λ_=>none) s1) :
  Inv (QlA CX P w K mg base N qual scope f cd A outer s H E) [] (start N vs) H s1:=by
 have hpl:ps.length<=N.length:=by have:=congrArg Qfw S.pre;rw[Y5] at this;omega
 obtain⟨h1,tk,rfl,hk⟩:=x.done;have noA:∀b:Addr,b∉(QlA CX P w K mg base N qual scope f cd A outer s H E).ex:=λb z=>absurd (show b∈([]:List Addr) from z) (by simp)
 refine⟨⟨e0.mod,S.kind,rfl,rfl,Qh _,λy z c h1 h2=>?_,λy hy=>?_,λy c _ h=>?_,λ_=>hd,Around.frames_deeper e0.frames,.inr ⟨rfl,rfl⟩,λb z=>absurd z (noA b),e0.bs,e0.bsz,λb _ _=>noA b,λb z=>absurd z (noA b),e0.funs,e0.frf⟩,
  rfl,e0.bare,Un.kept hk,⟨_,x.toInCall.ns,λi y v h1 h2 h3=>?_⟩,λy c h=>⟨_,x.cell y c h⟩,e0.hok.fresh (Qh _),λy c h=>?_,λp hp=>absurd (show p∈([]:List (Addr×Obj)) from hp) (by simp),e0.hok.kept hk,?_⟩
 ·exact name_of_addr x.apart (PySem.mem_of_lookup h1) (PySem.mem_of_lookup h2)
 ·have hy:scope.names.lookup y=some .cell∨scope.names.lookup y=some .free:=hy;rcases hy with hy | hy
  ·exact Qip hy
  ·exact absurd rfl (S.nofree _ (PySem.mem_of_lookup hy))
 ·exact Ju (x.above y c (PySem.mem_of_lookup h))
 ·have hi:i<vs.length:=by
   unfold start at h2;by_cases hi:i<vs.length
   ·exact hi
   ·rw[QaE (by simpa using hi)] at h2;rw[ZB] at h2;split at h2<;>cases h2
  have ha:vs[i]? = some v:=by
   unfold start at h2;rw[QaU (by simpa using hi),Qr] at h2;cases e:vs[i]? with
   |none=>rw[e] at h2;cases h2
   |some a=>rw[e] at h2;cases h2;rfl
  obtain⟨u,hu,rv⟩:=r.get ha;have hp:ps[i]? = some y:=by
   rw[<- S.pre,List.getElem?_take_of_lt (by omega)];exact h1
  have ndP:ps.Nodup:=by rw[<- S.pre];exact S.nd.sublist (List.take_sublist _ _)
  refine⟨u,rv,?_⟩;rcases S.par y (Ji hp) with k | k
  ·exact .inl ⟨k,QgA ndP hp hu k⟩
  ·obtain⟨c,e⟩:=Qip (n:=s.heap.objs.size+1) k;refine .inr ⟨.inl k,c,e,?_⟩;have q:=x.cell y c e;rw[QgC ndP hp hu (by show scope.names.lookup y≠_;rw[k];decide)] at q;exact q
 ·exact e0.hok.fresh (Ju (x.above y c (PySem.mem_of_lookup h)))
 ·unfold start;show _=N.length;rw[QM,Qe,YU];omega
theorem QuP{CX:CXT}{P:Qz}{w:Jf}{K:PySem.W.Frag}{mg:Str->Option Value}{base:JR}{k:Nat}{f:Addr}{name qual:Str}{params:Arguments}{body:List ZG}{scope:YW}{dV kV doc pm cdv ct oc:Value}{an od:Option Addr}
  {osl:Array (Option Value)} {N ps:List Str} {sp:Sp} (lk:K.lookup f=some ⟨oc,od,.func (PySem.W.fnOf name qual params body scope dV kV doc pm an cdv ct),osl⟩) (hcd:PySem.W.codeIn K cdv qual=true) (S:Jq N ps scope)
  (len:∀vs H Q E,sp vs H Q E->vs.length=ps.length)
  (hbody:∀(A:Jb)(outer:List Env)(s:Shared)(H:Hp)(vs:List V)(Q:VK)(E:XK),Room k (A.deeper (envOfC qual scope s.heap.objs.size f cdv))->sp vs H Q E ->
   ∃t,PSs (QlA CX P w K mg base N qual scope f cdv A outer s H E) body t/\t { nx:=λ_ H'=>Q .non H',rt:=Q } (start N vs) H) :
  FnOk P w K mg base CX (k+1) f (PySem.W.fnOf name qual params body scope dV kV doc pm an cdv ct) ps sp:=by
 refine⟨len,λA outer s H args us vs Q E hr e0 hb r hsp=>?_⟩;have hl:=len _ _ _ _ hsp;have KX:K.In s.heap:=e0.mod.kin.keeps λb o e=>(e0.bs b o e).1
 have lim:s.heap.NoLimit:=e0.mod.nolimit.keeps λb o e=>(e0.bs b o e).1
 have hkind:∀y∈ps.zip us,scope.names.lookup y.1=some .local∨(scope.names.lookup y.1=some .cell/\((cellsFrom (s.heap.objs.size+1) scope.names []).lookup y.1).isSome=true):=λ⟨n,v⟩ hy=>by
  rcases S.par n (Qft hy).1 with q | q
  ·exact .inl q
  ·exact .inr ⟨q,PySem.W.cellsFrom_some _ _ _ (.inl q)⟩
 refine codeAny_call_function hr.depth (KX _ _ lk) rfl S.co S.gen rfl (PySem.W.codeRec_of KX hcd) (hb _ _ _ _ ?_);refine wpAny_newFunctionEnv_cells S.kind hkind λenv he s1 x=>?_
 subst he;refine⟨lim.keeps x.toInCall.keep,codeAny_func ?_⟩;obtain⟨t,ht,hq⟩:=hbody A outer s H vs Q E (hr.deeper _) hsp;have I:Inv (QlA CX P w K mg base N qual scope f cdv A outer s H E) [] (start N vs) H s1:=Qlc S hr.hd e0 hl r x;refine wpAny_mono (ht [] s1 (start N vs) H _ I hq) (λfl s' hs=>?_) λe s' hs=>hs
 have fin:∀{σ':St}{H':Hp}{v:V}{u:Value},Inv (QlA CX P w K mg base N qual scope f cdv A outer s H E) [] σ' H' s'->RelV v u->Q v H'->CE outer P w H s Q u s':=
  λ{σ' H' v u} J rv q=>⟨v,H',J.os,J.bare,J.base,J.hok,rv,q⟩
 cases fl with
 |ret u=>
  obtain⟨v,σ',H',J,rv,q⟩:=hs;exact fin J rv q
 |next=>
  obtain⟨σ',H',J,q⟩:=hs;exact fin (v:=V.non) (u:=Jz) J rfl q
 |brk=>
  obtain⟨_,_,_,q⟩:=hs;exact ZK q
 |cont=>
  obtain⟨_,_,_,q⟩:=hs;exact ZK q
section
variable{X:Cx}{x:Str}{p pos:Pos}{e:QR}{es:List QR}{t:TA}{id T:String}{r:List V->Hp->VK->Prop}
def tCB(r:List V->Hp->VK->Prop)(t:TA):TE:=λσ H Q=>t σ H λvs H1=>r vs H1 Q
theorem Z4(hc:CallR X (.builtin id) r)(hg:Gl X x)(hm:X.mg x=none)(hv:bootBuiltins x=some (.builtin id))(ha:PA X (e::es) t)(hn:x ≠ "__name__" := by decide)(hdb:(x == ("__debug__" : Str))=false:=by decide)
  (he:starEach (e::es) X.env=(false,eval e X.env)::starEach es X.env:=by rfl)(hpl:(backTo pos (starEach es X.env)).any (·.1)=false:=by rfl):PE X (.Call (.Name x p) (e::es) [] pos) (tCB r t):=by
 intro pins s σ H Q I h;refine Qbr (Qa0 I hg hm hv ?_ hn hdb);exact PyProof.Rows.callWith_builtin1 (thn (ha pos pins s σ H _ I h) λus s1 ⟨vs,H1,I1,r1,q1⟩=>hc pins s1 σ H1 vs us Q I1 r1 q1) he hpl
theorem Qdo(hc:CallR X (.type T) r)(hg:Gl X x)(hm:X.mg x=none)(hv:bootBuiltins x=some (.type T))(ha:PA X (e::es) t)(hn:x ≠ "__name__" := by decide)(hdb:(x == ("__debug__" : Str))=false:=by decide)
  (he:starEach (e::es) X.env=(false,eval e X.env)::starEach es X.env:=by rfl)(hpl:(backTo pos (starEach es X.env)).any (·.1)=false:=by rfl):PE X (.Call (.Name x p) (e::es) [] pos) (tCB r t):=by
 intro pins s σ H Q I h;refine Qbr (Qa0 I hg hm hv ?_ hn hdb);exact Q5 (thn (ha pos pins s σ H _ I h) λus s1 ⟨vs,H1,I1,r1,q1⟩=>hc pins s1 σ H1 vs us Q I1 r1 q1) he hpl
end
end L2
namespace HT
theorem QmJ(A:Jb)(s:Shared)(a:Int)(t:Tok)(c:Int)(u:Tok)(prog:Qz)(w:Jf)(E:Value->Shared->Prop)(Q:Value->Shared->Prop)(h:Q (.bool (decide (a<c))) s) :
  wpAny (model prog w) A (richCompare .Lt (.int a t) (.int c u)) Q E s:=
 (PyProof.Rows.lt_int h:wpAny (model prog w) A (compareOp .Lt (.int a t) (.int c u)) Q E s)
section
open PySem.SeqAt
open PySem.AutoSeq1 (wpAny_loadPart')
open PySem.MeetsSeq PySem.MeetsSeq2 PySem.MeetsSeq3
end
section
variable{prog:Qz}{w:Jf}{A:Jb}{E:Value->Shared->Prop}{s:Shared}
theorem QsA{t b:Addr}{vs ws:List Value}{Q:Value->Shared->Prop}(ht:IsTup s.heap t vs.toArray)(hb:IsTup s.heap b ws.toArray)(hv:vs≠[])
  (h1:ws=[]->Q (.ref t) s)(h2:ws≠[]->Q (.ref s.heap.objs.size) { s with heap:=s.heap.push { cls:=.type "tuple",data:=.seq (vs++ws).toArray } })
  (hsz:vs.length+ws.length<=sizeLine):wpAny (model prog w) A (binaryOp .Add (.ref t) (.ref b)) Q E s:=by
 obtain⟨⟨cls,dd,data,sl⟩,ho,hc,n,hd⟩:=id ht;obtain⟨⟨cls2,dd2,data2,sl2⟩,ho2,hc2,n2,hd2⟩:=id hb;simp only at hc hd hc2 hd2;subst hc hd hc2 hd2;have e:vs.toArray++ws.toArray=(vs++ws).toArray:=by simp
 by_cases hw:ws=[]
 ·exact Qpk ⟨_,ho,rfl⟩ ⟨_,ho2,rfl⟩ QgP Qma PySem.F.slot_tuple_add PySem.F.entry_tuple_add (PySem.F.args_tuple_add_2 _ _)
   (tuple_addW1 t b vs.toArray ws.toArray n n2 dd dd2 sl sl2 (by simpa using hv) (by simp[hw])) ⟨ho,ho2,h1 hw⟩
 ·refine Qpk ⟨_,ho,rfl⟩ ⟨_,ho2,rfl⟩ QgP Qma PySem.F.slot_tuple_add PySem.F.entry_tuple_add (PySem.F.args_tuple_add_2 _ _)
   (tuple_addW2 t b vs.toArray ws.toArray n n2 dd dd2 sl sl2 (by simpa using hv) (by simpa using hw) (by rw[Qj,Qj];exact hsz)) ⟨ho,ho2,?_⟩
  rw[e];exact h2 hw
def sIx(n d:Nat):Option Int->Nat
 |none=>d
 |some v=>if v<0 then(v+(n:Int)).toNat else min v.toNat n
theorem QeU(n d:Nat):sIx n d none=d:=rfl
theorem Qj9(n d k:Nat):sIx n d (some (k:Int))=min k n:=by
 show(if(k:Int)<0 then((k:Int)+(n:Int)).toNat else min (k:Int).toNat n)=min k n;rw[if_neg (by omega),QD]
theorem QtA(n d:Nat)(hd:d<=n)(o:Option Int):sIx n d o<=n:=by
 cases o with
 |none=>exact hd
 |some v=>
  show(if v<0 then(v+(n:Int)).toNat else min v.toNat n)<=n;by_cases hv:v<0
  ·rw[if_pos hv];omega
  ·rw[if_neg hv];exact QeF _ _
theorem QlF(v:Int)(n d:Nat):(if v<0 then max (v+(n:Int)) 0 else min v (n:Int))=((sIx n d (some v):Nat):Int):=by
 show(if v<0 then max (v+(n:Int)) 0 else min v (n:Int))=(((if v<0 then(v+(n:Int)).toNat else min v.toNat n):Nat):Int);by_cases hv:v<0
 ·simp only[if_pos hv];omega
 ·simp only[if_neg hv];omega
theorem Qjl(lo hi:Option Int)(n:Nat):YZ lo hi 1 (n:Int)=(((sIx n 0 lo:Nat):Int),((sIx n n hi:Nat):Int)):=by
 have h1:¬((1:Int)<0):=by omega
 unfold YZ;simp only[h1,if_false];refine QeC ?_ ?_
 ·cases lo with
  |none=>rfl
  |some v=>exact QlF v n 0
 ·cases hi with
  |none=>rfl
  |some v=>exact QlF v n n
theorem QiT(i j:Nat):ZP (i:Int) (j:Int) 1=j - i:=by
 unfold ZP;have h1:(1:Int) > 0:=by omega
 simp only[h1,if_true,Int.ediv_one];split<;>omega
theorem Qea{v:Value}{o:Option Int}{Q:Option Int->Shared->Prop}(p:QgL v o)(h:Q o s):wpAny (model prog w) A (Qwg v) Q E s:=by
 cases p with
 |none=>exact slicePart_none h
 |int i t=>exact slicePart_int h
theorem QaW{sl:Addr}{vl vu:Value}{lo hi:Option Int}{n:Nat}{Q:Int×Int×Nat->Shared->Prop}(hs:s.heap.IsSliceOf sl vl vu .none)(pl:QgL vl lo)(pu:QgL vu hi)
  (h:Q (((sIx n 0 lo:Nat):Int),1,sIx n n hi - sIx n 0 lo) s):wpAny (model prog w) A (QcS (.ref sl) (pure (n:Int))) Q E s:=by
 obtain⟨os,hos,hcs,hds⟩:=id hs;unfold QcS Qwh;refine wpAny_bind (wpAny_bind (JJ hos hds (x:=vl) rfl (wpAny_bind (JJ hos hds (x:=vu) rfl (wpAny_bind (JJ hos hds (x:=.none) rfl (Qm ?_)))))));refine wpAny_bind (slicePart_none ?_);show wpAny _ _ (if((1:Int) == 0)=true then _ else _) _ _ s;rw[if_neg (by decide)];refine wpAny_bind (Qea pl (wpAny_bind (Qea pu (wpAny_bind (Qm ?_)))));show wpAny _ _ (match YZ lo hi 1 (n:Int) with | (lo,hi)=>pure (lo,(1:Int),ZP lo hi 1)) _ _ s;rw[Qjl lo hi n];show wpAny _ _ (pure (((sIx n 0 lo:Nat):Int),(1:Int),ZP ((sIx n 0 lo:Nat):Int) ((sIx n n hi:Nat):Int) 1)) _ _ s;rw[QiT];exact Qm h
theorem QmP(xs:Array Value)(i k:Nat):((Qg k).filterMap λ(m:Nat)=>xs[((i:Int)+(m:Int)*1).toNat]?).toArray=((xs.toList.drop i).take k).toArray:=by
 have e:(λ(m:Nat)=>xs[((i:Int)+(m:Int)*1).toNat]?)=λm=>xs[i+m]? := by
  funext m
  have:((i:Int)+(m:Int)*1).toNat=i+m:=by omega
  rw[this]
 rw[e];have:=pick_run xs i k;rw[Yu] at this;have e2:((λx=>xs[x]?)∘λx=>i+x)=λm=>xs[i+m]? := rfl
 rw[e2] at this;rw[this]
theorem QcN{t sl:Addr}{items:Array Value}{vl vu:Value}{lo hi:Option Int}{Q:Value->Shared->Prop}(ht:IsTup s.heap t items)(hs:s.heap.IsSliceOf sl vl vu .none)(pl:QgL vl lo)(pu:QgL vu hi)
  (hw:¬(sIx items.size 0 lo=0/\sIx items.size items.size hi=items.size))
  (h:Q (.ref s.heap.objs.size) { s with heap:=s.heap.push { cls:=.type "tuple",data:=.seq ((items.toList.drop (sIx items.size 0 lo)).take (sIx items.size items.size hi - sIx items.size 0 lo)).toArray } })
  (hsz:items.size<=sizeLine):wpAny (model prog w) A (getItem (.ref t) (.ref sl)) Q E s:=by
 have htake:sizeOk (.seq ((items.toList.drop (sIx items.size 0 lo)).take (sIx items.size items.size hi - sIx items.size 0 lo)).toArray):=by
  show((items.toList.drop (sIx items.size 0 lo)).take (sIx items.size items.size hi - sIx items.size 0 lo)).toArray.size<=sizeLine;rw[Qj,Y5,Qd7,JN];omega
 have hj:sIx items.size items.size hi<=items.size:=QtA _ _ (Qh _) hi;obtain⟨os,hos,hcs,hds⟩:=id hs;have hTs:s.TypeIs (.ref sl) "slice" := ⟨os,hos,hcs⟩;unfold getItem
 try with_reducible refine Yj ?_
 first | refine wpAny_bind (Qm ?_) | skip
 refine wpAny_bind (QvO ht.typeIs (by decide) ?_);refine wpAny_bind (Zi (name:=ZX "__getitem__") ht.typeIs JE
  (Zo JE ht.typeIs QsY ?_ (Qvt _ _)))
 show wpAny _ _ (QcR (.ref t) >>= _) _ _ s;refine wpAny_bind (tupleItemsOf_ ht ?_);refine wpAny_bind (Qpj hTs ?_);rw[if_pos (by decide)];refine wpAny_bind (QaW hs pl pu ?_);have hno:¬((((sIx items.size 0 lo:Nat):Int) == 0&&(1:Int) == 1&&(sIx items.size items.size hi - sIx items.size 0 lo) == items.size)=true):=by
  intro q;rw[Jy,Jy] at q;have q1:((sIx items.size 0 lo:Nat):Int)=0:=eq_of_beq q.1.1;have q2:sIx items.size items.size hi - sIx items.size 0 lo=items.size:=eq_of_beq q.2;exact hw ⟨by omega,by omega⟩
 show wpAny _ _ (if(((sIx items.size 0 lo:Nat):Int) == 0&&(1:Int) == 1&&(sIx items.size items.size hi - sIx items.size 0 lo) == items.size)=true then _ else _) _ _ s;rw[if_neg hno,QmP]
 first
  |exact wpAny_bind (m:=ZW _) (JH (Qm ⟨_,rfl,Qm h⟩) htake)
  |exact wpAny_bind (m:=ZW _) (JH (wpAny_bind (Qm (Qm ⟨_,rfl,Qm h⟩))) htake)
  |exact wpAny_bind (wpAny_bind (m:=ZW _) (JH (Qm (Qm ⟨_,rfl,Qm h⟩)) htake))
  |exact wpAny_bind (wpAny_bind (m:=ZW _) (JH (Qm ⟨_,rfl,Qm h⟩) htake))
end
end HT
namespace L2
abbrev TO:=St->Hp->(Option Int->Hp->Prop)->Prop
def PO(X:Cx)(e:Option QR)(t:TO):Prop:=
 ∀(pins:List (Addr×Obj))(s:Shared)(σ:St)(H:Hp)(Q:Option Int->Hp->Prop),Inv X pins σ H s->t σ H Q ->
  wpAny (model X.prog X.w) X.A (evalPart e X.env) (λu s'=>∃o H',Inv X pins σ H' s'/\QgL u o/\Q o H') X.xe s
def QpG:TO:=λ_ H Q=>Q none H
def Qwn(t:TE):TO:=λσ H Q=>t σ H λx H1=>∃i,x=.int i/\Q (some i) H1
theorem intsAre_of{ns:List Int}:∀{us:List Value},Vals (ns.map V.int) us->QbB us ns:=by
 induction ns with
 |nil=>intro us r;rw[Qv8] at r;cases r;exact .nil
 |cons n ns ih=>
  intro us r;rw[JT] at r;cases r with
  |cons r1 r2=>
   obtain⟨t,e⟩:=r1;subst e;exact .cons n t (ih r2)
section
variable{X:Cx}{e:QR}{te:TE}{lo hi:Option QR}{tl th:TO}{pos p2:Pos}
theorem Qrc:PO X none QpG:=by
 intro pins s σ H Q I h;rw[evalPart_none];exact Qm ⟨none,H,I,.none,h⟩
theorem Qrb(h:PE X e te):PO X (some e) (Qwn te):=by
 intro pins s σ H Q I hw;rw[evalPart_some];refine thn (h pins s σ H _ I hw) λu s1 ⟨x,H1,I1,r1,q1⟩=>?_
 obtain⟨i,rfl,q⟩:=q1;obtain⟨t,rfl⟩:=r1;exact⟨some i,H1,I1,.int i t,q⟩
def SlR(X:Cx)(r:V->Option Int->Option Int->Hp->VK->Prop):Prop:=
 ∀(pins:List (Addr×Obj))(s:Shared)(σ:St)(H:Hp)(x:V)(v vl vu:Value)(lo hi:Option Int)(sl:Addr)(Q:VK),Inv X pins σ H s->RelV x v->s.heap.IsSliceOf sl vl vu .none->QgL vl lo->QgL vu hi->r x lo hi H Q ->
  ∃T id,typeLookup (.type T) "__getitem__" = pure (some (.builtin id))/\s.TypeIs v T/\wpAny (model X.prog X.w) X.A (getItem v (.ref sl)) (EP X pins σ Q) X.xe s
def tSl(r:V->Option Int->Option Int->Hp->VK->Prop)(te:TE)(tl th:TO):TE:=λσ H Q=>te σ H λx H1=>tl σ H1 λl H2=>th σ H2 λu H3=>r x l u H3 Q
theorem QmT{r:V->Option Int->Option Int->Hp->VK->Prop}(hr:SlR X r)(he:PE X e te)(hl:PO X lo tl)(hu:PO X hi th):PE X (.Subscript e (.Slice lo hi none p2) pos) (tSl r te tl th):=by
 intro pins s σ H Q I h;refine Subscript_ (thn (he pins s σ H _ I h) λv s1 ⟨x,H1,I1,r1,q1⟩=>?_);refine wpAny_Slice (thn (hl pins s1 σ H1 _ I1 q1) λvl s2 ⟨l,H2,I2,pl,q2⟩=>thn (hu pins s2 σ H2 _ I2 q2) λvu s3 ⟨u,H3,I3,pu,q3⟩=>?_);rw[evalPart_none];refine Qm ?_
 have I4:Inv X pins σ H3 { s3 with heap:=s3.heap.push { cls:=.type "slice",data:=.fields #[vl,vu,.none] } }:=I3.kept (t':=s3.toks) λb ob q=>Qc _ q
 obtain⟨T,id,hT,ht,hg⟩:=hr pins { s3 with heap:=s3.heap.push { cls:=.type "slice",data:=.fields #[vl,vu,.none] } } σ H3 x v vl vu l u s3.heap.objs.size Q I4 r1 (QvB ..) pl pu q3;show wpAny (model X.prog X.w) X.A (subscriptTail e (.Slice lo hi none p2) v (.ref s3.heap.objs.size)) (EP X pins σ Q) X.xe { s3 with heap:=s3.heap.push { cls:=.type "slice",data:=.fields #[vl,vu,.none] } };exact tail_any (ops:=[.ref s3.heap.objs.size,v]) ht hT hg (by with_unfolding_all rfl)
def Qin(xs:List V)(lo hi:Option Int):List V:=(xs.drop (HT.sIx xs.length 0 lo)).take (HT.sIx xs.length xs.length hi - HT.sIx xs.length 0 lo)
theorem QdD(xs:List V)(lo hi:Option Int):(Qin xs lo hi).length<=xs.length:=by
 unfold Qin;rw[Y5,Qd7];omega
def Qyo(K:PySem.W.Frag):V->Option Int->Option Int->Hp->VK->Prop:=λx lo hi H Q=>∃a xs,x=.ref a/\SqT K H a xs /\
 ¬(HT.sIx xs.length 0 lo=0/\HT.sIx xs.length xs.length hi=xs.length)/\∀p,H p=none->Q (.ref p) (upd H p (.tup (Qin xs lo hi)))
theorem Qts:SlR X (Qyo X.K):=by
 intro pins s σ H x v vl vu lo hi sl Q I rx hs pl pu h;obtain⟨a,xs,rfl,hx,hw,q⟩:=h;cases rx;obtain⟨its,r,ht,hz⟩:=I.tuple hx;have hlen:its.toArray.size=xs.length:=by rw[Qj];exact r.length.symm
 refine⟨"tuple",_,JE.lookup,ht.typeIs,?_⟩;refine HT.QcN ht hs pl pu (by rw[hlen];exact hw) ?_ (by rw[hlen];exact hz)
 rw[hlen];refine⟨.ref s.heap.objs.size,_,I.laid (t':=s.toks) (o:=.tup (Qin xs lo hi)) (λb ob q=>Qc _ q) (Qh _) ?_,rfl,q _ (I.hok.fresh (Qh _))⟩;exact⟨QJ (QdD xs lo hi) hz,_,(r.drop (HT.sIx xs.length 0 lo)).take (HT.sIx xs.length xs.length hi - HT.sIx xs.length 0 lo),TupN.new _ _⟩
def QwD(K:PySem.W.Frag):R2:=λx y H Q=>∃a b xs ys,x=.ref a/\y=.ref b/\SqT K H a xs/\SqT K H b ys/\xs≠[]/\xs.length+ys.length<=sizeLine /\
 (ys=[]->Q (.ref a) H)/\(ys≠[]->∀p,H p=none->Q (.ref p) (upd H p (.tup (xs++ys))))
theorem Vals.nil_iff{xs:List V}{us:List Value}(r:Vals xs us):us=[]↔xs=[]:=by
 cases r with
 |nil=>simp
 |cons _ _=>simp
theorem QrM:OpR X (binaryOp .Add) (QwD X.K):=by
 intro pins s σ H x y v u Q I rx ry h;obtain⟨a,b,xs,ys,rfl,rfl,ha,hb,hx,hz,q1,q2⟩:=h;cases rx;cases ry;obtain⟨its,r1,p1,_⟩:=I.tuple ha;obtain⟨its2,r2,p2,_⟩:=I.tuple hb;refine HT.QsA p1 p2 (λz=>hx (r1.nil_iff.mp z)) (λz=>⟨.ref a,H,I,rfl,q1 (r2.nil_iff.mp z)⟩) (λz=>?_) (by rw[<- r1.length,<- r2.length];exact hz);refine⟨.ref s.heap.objs.size,_,I.laid (t':=s.toks) (o:=.tup (xs++ys)) (λb ob q=>Qc _ q) (Qh _) ?_,rfl,q2 (λw=>z (r2.nil_iff.mpr w)) _ (I.hok.fresh (Qh _))⟩;exact⟨by rw[QM];exact hz,_,r1.append r2,TupN.new _ _⟩
end
def ixN(n:Nat)(i:Int):Option Nat:=if 0<=i then(if i<n then some i.toNat else none) else if -(n:Int)<=i then some (i+n).toNat else none
def atI{α:Type}(xs:List α)(i:Int):Option α:=(ixN xs.length i).bind λj=>xs[j]?
theorem Qla{n:Nat}{i:Int}{j:Nat}(h:ixN n i=some j):seqIndex? i n=some j/\j<n /\ -(n:Int)<=i/\i<n:=by
 unfold ixN at h;by_cases h0:0<=i
 ·rw[if_pos h0] at h;by_cases h1:i<n
  ·rw[if_pos h1] at h;have e:i.toNat=j:=Qy h;exact⟨by rw[Qiw h0 h1,e],by omega,by omega,h1⟩
  ·rw[if_neg h1] at h;cases h
 ·rw[if_neg h0] at h;by_cases h1 : -(n:Int)<=i
  ·rw[if_pos h1] at h;have e:(i+n).toNat=j:=Qy h;exact⟨by rw[QgG (by omega) h1,e],by omega,h1,by omega⟩
  ·rw[if_neg h1] at h;cases h
theorem QhE{α:Type}{xs:List α}{i:Int}{v:α}(h:atI xs i=some v):∃j,seqIndex? i xs.length=some j/\xs[j]? = some v/\j<xs.length /\ -(xs.length:Int)<=i/\i<xs.length:=by
 unfold atI at h;cases e:ixN xs.length i with
 |none=>rw[e] at h;cases h
 |some j=>
  rw[e] at h;obtain⟨h1,h2,h3,h4⟩:=Qla e;exact⟨j,h1,h,h2,h3,h4⟩
theorem Zd{α:Type}{xs:List α}{j:Nat}{v:α}(h:xs[j]? = some v):atI xs (j:Int)=some v:=by
 have hj:j<xs.length:=(Jm.mp h).1;have e:ixN xs.length (j:Int)=some j:=by
  unfold ixN;rw[if_pos (by omega),if_pos (by omega)];simp
 unfold atI;rw[e];exact h
def QhG(b:QR):Prop:=∀o i,subscripted b false o i=operate [o,i] (getItem o i)
def IxR(X:Cx)(r:R2):Prop:=
 ∀(value slice:QR)(pins:List (Addr×Obj))(s:Shared)(σ:St)(H:Hp)(x y:V)(v u:Value)(Q:VK),Inv X pins σ H s->RelV x v->RelV y u->r x y H Q ->
  subscripted slice false v u=operate [v,u] (getItem v u)->wpAny (model X.prog X.w) X.A (subscriptTail value slice v u) (EP X pins σ Q) X.xe s
def MtR(X:Cx)(id:String)(r:V->List V->Hp->VK->Prop):Prop:=
 ∀(pins:List (Addr×Obj))(s:Shared)(σ:St)(H:Hp)(x:V)(xs:List V)(v:Value)(us:List Value)(Q:VK),Inv X pins σ H s->RelV x v->Vals xs us->r x xs H Q ->
  wpAny (model X.prog X.w) X.A (call (.builtin id) (v::us)) (EP X pins σ Q) X.xe s
section
variable{X:Cx}{a b:QR}{ta tb:TE}{pos:Pos}
theorem Qe5{r:R2}(hr:IxR X r)(ha:PE X a ta)(hb:PE X b tb)(hs:QhG b):PE X (.Subscript a b pos) (tOp r ta tb):=by
 intro pins s σ H Q I h;exact Subscript_ (Qxw ha hb I h λv u s2 x y H2 I2 rx ry q=>hr a b pins s2 σ H2 x y v u Q I2 rx ry q (hs _ _))
def QvE(K:PySem.W.Frag):R2:=λx y H Q=>∃p xs i v,x=.ref p/\y=.int i/\SqL K H p xs/\atI xs i=some v/\Q v H
def QwB(K:PySem.W.Frag):R2:=λx y H Q=>∃p xs i v,x=.ref p/\y=.int i/\SqT K H p xs/\atI xs i=some v/\Q v H
theorem QcM:IxR X (QvE X.K):=by
 intro value slice pins s σ H x y v u Q I rx ry h hs;obtain⟨p,xs,i,z,rfl,rfl,hq,he,q⟩:=h;cases rx;obtain⟨t,rfl⟩:=ry;obtain⟨its,r,pl,hz⟩:=I.list hq;obtain⟨j,h1,h2,h3,h4,h5⟩:=QhE he;obtain⟨w,ew,rw'⟩:=r.get h2;have hl:=r.length;have hn:=Qdv;have fin:EP X pins σ Q w s:=⟨z,H,I,rw',q⟩;by_cases h0:0<=i
 ·have hj:i.toNat=j:=by
   rw[Qiw h0 h5] at h1;exact Qy h1
  exact item_listR pl.isList h0 (by omega) (by rw[hj];simpa using ew) fin hs
 ·have hj:(i+(its.toArray.size:Int)).toNat=j:=by
   rw[QgG (by omega) h4] at h1;rw[Qj,<- hl];exact Qy h1
  exact Qof (x:=w) pl.isList.typeIs QvU.lookup
   (Qod (Q:=λr s'=>r=w/\EP X pins σ Q r s') pl.isList (by omega) (by rw[Qj]<;>omega) (by omega) (by rw[hj];simpa using ew) ⟨rfl,fin⟩) hs
theorem Qie:IxR X (QwB X.K):=by
 intro value slice pins s σ H x y v u Q I rx ry h hs;obtain⟨p,xs,i,z,rfl,rfl,hq,he,q⟩:=h;cases rx;obtain⟨t,rfl⟩:=ry;obtain⟨its,r,pl,hz⟩:=I.tuple hq;obtain⟨j,h1,h2,h3,h4,h5⟩:=QhE he;obtain⟨w,ew,rw'⟩:=r.get h2;have hl:=r.length;have hn:=Qdv;have fin:EP X pins σ Q w s:=⟨z,H,I,rw',q⟩;exact Qof (x:=w) pl.typeIs slot_tuple_getitem.lookup
  (getItem_tuple (j:=j) (Q:=λr s'=>r=w/\EP X pins σ Q r s') pl (by omega) (by omega) (by rw[Qj,<- hl];exact h1) (by simpa using ew) ⟨rfl,fin⟩) hs
theorem Qi0(its:List Value)(n j:Nat)(u:Value):Z6 (·.setIfInBounds j u) { cls:=.type "list",data:=.seq its.toArray n }={ cls:=.type "list",data:=.seq (its.set j u).toArray n }:=by
 simp[Z6]
theorem Inv.lst{pins:List (Addr×Obj)}{σ:St}{H:Hp}{s:Shared}{p:Addr}{xs:List V}(I:Inv X pins σ H s)(h:H p=some (.lst xs)) :
  ∃(its:List Value)(n:Nat),Vals xs its/\s.heap.get? p=some { cls:=.type "list",data:=.seq its.toArray n }/\xs.length<=sizeLine:=by
 obtain⟨z,its,n,r,e⟩:=I.hok p _ h;exact⟨its,n,r,e,z⟩
theorem Inv.lstUpd{pins:List (Addr×Obj)}{σ:St}{H:Hp}{s:Shared}{p:Addr}{xs ys:List V}{its its':List Value}{n n':Nat}{f:Obj->Obj}(I:Inv X pins σ H s)(h:H p=some (.lst xs))
  (ho:s.heap.get? p=some { cls:=.type "list",data:=.seq its.toArray n })(hf:f { cls:=.type "list",data:=.seq its.toArray n }={ cls:=.type "list",data:=.seq its'.toArray n' })(r:Vals ys its')(hz:ys.length<=sizeLine)(t:Nat) :
  Inv X pins σ (upd H p (.lst ys)) { s with heap:=s.heap.update p f,toks:=t }:=by
 have e:(s.heap.update p f).get? p=some { cls:=.type "list",data:=.seq its'.toArray n' }:=by
  rw[Qjs f ho (by rw[hf]<;>rfl),hf]
 refine I.write (x:=p) (e:=p) (by rw[h];trivial) (.inl rfl) (λb u hb q=>(Qiz _ _ (Qa9 hb)).trans q) ⟨_,e⟩ ?_
 exact⟨hz,its',n',r,e⟩
def QtH:V->V->V->Hp->(Hp->Prop)->Prop:=λo i v H Q=>∃p xs k j,o=.ref p/\i=.int k/\H p=some (.lst xs)/\ixN xs.length k=some j/\Q (upd H p (.lst (xs.set j v)))
theorem QhU:QxA X QtH:=by
 intro pins s σ H o i v ov iv u Q I ro ri rv h;obtain⟨p,xs,k,j,rfl,rfl,hp,hj,q⟩:=h;cases ro;obtain⟨t,rfl⟩:=ri;obtain⟨its,n,r,ho,hz⟩:=I.lst hp;obtain⟨h1,h2,h3,h4⟩:=Qla hj;have hl:=r.length;have hn:=Qdv;have I':Inv X pins σ (upd H p (.lst (xs.set j v))) { s with heap:=s.heap.update p (Z6 (·.setIfInBounds j u)) }:=
  I.lstUpd hp ho (Qi0 its n j u) (r.set rv j) (by rw[Zx];exact hz) s.toks
 by_cases h0:0<=k
 ·have hk:k.toNat=j:=by
   rw[Qiw h0 h4] at h1;exact Qy h1
  exact PySem.W.ki_setAt ho h0 (by omega) (by rw[Qj,<- hl];exact h4) (by rw[hk];exact⟨_,I',q⟩)
 ·have hk:(k+(its.toArray.size:Int)).toNat=j:=by
   rw[QgG (by omega) h3] at h1;rw[Qj,<- hl];exact Qy h1
  exact PySem.W.ki_setBack ho (by omega) (by rw[Qj,<- hl];exact h3) (by omega) (by rw[hk];exact⟨_,I',q⟩)
theorem QfX(lo hi:Option Int)(n:Nat):(sliceBounds lo hi none n).1=((HT.sIx n 0 lo:Nat):Int)/\(sliceBounds lo hi none n).2.1=((HT.sIx n n hi:Nat):Int)/\(sliceBounds lo hi none n).2.2=1:=by
 refine⟨?_,?_,rfl⟩
 ·cases lo with
  |none=>simp[sliceBounds,HT.sIx]
  |some i=>
   simp only[sliceBounds,HT.sIx,Qmf,show(1:Int) > 0 by decide,if_true];by_cases h:i<0
   ·simp only[h,if_true]<;>omega
   ·simp only[h,if_false]<;>omega
 ·cases hi with
  |none=>simp[sliceBounds,HT.sIx]
  |some i=>
   simp only[sliceBounds,HT.sIx,Qmf,show(1:Int) > 0 by decide,if_true];by_cases h:i<0
   ·simp only[h,if_true]<;>omega
   ·simp only[h,if_false]<;>omega
theorem QeR(its:List Value)(lo hi:Option Int):slicePick its.toArray lo hi none=((its.drop (HT.sIx its.length 0 lo)).take (HT.sIx its.length its.length hi - HT.sIx its.length 0 lo)).toArray:=by
 obtain⟨h1,h2,h3⟩:=QfX lo hi its.toArray.size;unfold slicePick;rw[h1,h2,h3];simp only[sliceRange_one,pick_run,Qj]<;>rfl
def Qyp(K:PySem.W.Frag):V->Option Int->Option Int->Hp->VK->Prop:=λx lo hi H Q=>∃a xs,x=.ref a/\SqL K H a xs/\∀p,H p=none->Q (.ref p) (upd H p (.lst (Qin xs lo hi)))
theorem QpO:SlR X (Qyp X.K):=by
 intro pins s σ H x v vl vu lo hi sl Q I rx hs pl pu h;obtain⟨a,xs,rfl,hx,q⟩:=h;cases rx;obtain⟨its,r,ht,hz⟩:=I.list hx;have hlen:=r.length;refine⟨"list",_,QvU.lookup,ht.isList.typeIs,?_⟩;refine wpAny_getItem_list_slice ht.isList hs pl pu .none (by simp) ?_ (by rw[Qj]<;>omega)
 rw[QeR,<- hlen];refine⟨.ref s.heap.objs.size,_,I.laid (t':=s.toks) (o:=.lst (Qin xs lo hi)) (λb ob q=>Qc _ q) (Qh _) ?_,rfl,q _ (I.hok.fresh (Qh _))⟩;exact⟨QJ (QdD xs lo hi) hz,_,0,(r.drop (HT.sIx xs.length 0 lo)).take (HT.sIx xs.length xs.length hi - HT.sIx xs.length 0 lo),Qu _ rfl⟩
def Qgm:V->Bool
 |.non=>true
 |.bl _=>true
 |.int _=>true
 |.str _=>true
 |_=>false
def eqV:V->V->Bool
 |.non,.non=>true
 |.bl a,.bl b=>a == b
 |.bl a,.int b=>(if a then 1 else 0) == b
 |.int a,.bl b=>a == (if b then 1 else 0)
 |.int a,.int b=>a == b
 |.str a,.str b=>a == b
 |_,_=>false
theorem QuR{A:Jb}{s:Shared}{y x:V}{u v:Value}(ry:RelV y u)(rx:RelV x v)(fy:Qgm y=true)(fx:Qgm x=true):Qmc A s u v (eqV y x):=by
 cases y with
 |non=>
  cases ry;cases x with
  |non=>cases rx;exact SeqAt.EqAt.same _
  |bl b=>cases rx;exact SeqAt.EqAt.none_bool b
  |int b=>obtain⟨t,rfl⟩:=rx;exact SeqAt.EqAt.none_int b t
  |str b=>obtain⟨t,rfl⟩:=rx;exact SeqAt.EqAt.none_str b t
  |_=>exact absurd (show false=true from fx) Qo
 |bl a=>
  cases ry;cases x with
  |non=>cases rx;exact SeqAt.EqAt.bool_none a
  |bl b=>cases rx;exact SeqAt.EqAt.bool_bool a b
  |int b=>obtain⟨t,rfl⟩:=rx;exact SeqAt.EqAt.bool_int a b t
  |str b=>obtain⟨t,rfl⟩:=rx;exact SeqAt.EqAt.bool_str a b t
  |_=>exact absurd (show false=true from fx) Qo
 |int a=>
  obtain⟨t',rfl⟩:=ry;cases x with
  |non=>cases rx;exact SeqAt.EqAt.int_none a t'
  |bl b=>cases rx;exact SeqAt.EqAt.int_bool a t' b
  |int b=>obtain⟨t,rfl⟩:=rx;exact SeqAt.EqAt.int_int a t' b t
  |str b=>obtain⟨t,rfl⟩:=rx;exact QgS a t' b t
  |_=>exact absurd (show false=true from fx) Qo
 |str a=>
  obtain⟨t',rfl⟩:=ry;cases x with
  |non=>cases rx;exact SeqAt.EqAt.str_none a t'
  |bl b=>cases rx;exact SeqAt.EqAt.str_bool a t' b
  |int b=>obtain⟨t,rfl⟩:=rx;exact QgR a t' b t
  |str b=>obtain⟨t,rfl⟩:=rx;exact SeqAt.EqAt.str_str a t' b t
  |_=>exact absurd (show false=true from fx) Qo
 |_=>exact absurd (show false=true from fy) Qo
def eqU(x:V)(u:Value):Bool:=match u with
 |.none=>eqV .non x
 |.bool b=>eqV (.bl b) x
 |.int i _=>eqV (.int i) x
 |.str z _=>eqV (.str z) x
 |_=>false
theorem Qo5{x y:V}{u:Value}(r:RelV y u)(f:Qgm y=true):eqU x u=eqV y x:=by
 cases y with
 |non=>cases r;rfl
 |bl b=>cases r;rfl
 |int i=>obtain⟨t,rfl⟩:=r;rfl
 |str z=>obtain⟨t,rfl⟩:=r;rfl
 |_=>exact absurd (show false=true from f) Qo
theorem QhF{x:V}:∀{xs:List V}{us:List Value},Vals xs us->xs.all Qgm=true->us.any (eqU x)=xs.any λy=>eqV y x
 |_,_,.nil,_=>rfl
 |y::xs,u::us,.cons r t,f=>by
  rw[QhL,Jy] at f;rw[Yv,Yv,Qo5 r f.1,QhF t f.2]
theorem Qe9{A:Jb}{s:Shared}{x:V}{v:Value}(rx:RelV x v)(fx:Qgm x=true):∀{xs:List V}{us:List Value},Vals xs us->xs.all Qgm=true->∀u∈us,Qmc A s u v (eqU x u)
 |_,_,.nil,_=>λu hu=>by cases hu
 |y::xs,u::us,.cons r t,f=>λu' hu=>by
  rw[QhL,Jy] at f;rcases Qq.mp hu with rfl | hu
  ·rw[Qo5 r f.1];exact QuR r rx f.1 fx
  ·exact Qe9 rx fx t f.2 u' hu
def inV(x:V)(xs:List V):Bool:=xs.any λy=>eqV y x
def rIn(K:PySem.W.Frag)(neg:Bool):R2:=λx y H Q=>∃p xs,y=.ref p/\(SqL K H p xs∨SqT K H p xs)/\Qgm x=true/\xs.all Qgm=true/\Q (.bl (if neg then !inV x xs else inV x xs)) H
theorem QkM:OpR X (compareOp .In) (rIn X.K false):=by
 intro pins s σ H x y v u Q I rx ry h;obtain⟨p,xs,rfl,hq,fx,fs,q⟩:=h;cases ry;rcases hq with hq | hq
 ·obtain⟨its,r,pl,hz⟩:=I.list hq;refine Qpm (eqU x) pl.isList (λw hw=>Qe9 rx fx r fs w (by simpa using hw)) ⟨.bl _,H,I,rfl,?_⟩;rw[show its.toArray.any (eqU x)=its.any (eqU x) by simp,QhF r fs];exact q
 ·obtain⟨its,r,pl,hz⟩:=I.tuple hq;refine Qoh (eqU x) pl (λw hw=>Qe9 rx fx r fs w (by simpa using hw)) ⟨.bl _,H,I,rfl,?_⟩;rw[show its.toArray.any (eqU x)=its.any (eqU x) by simp,QhF r fs];exact q
theorem YE:CallR X (.builtin "len") (λxs H Q=>∃p ys,xs=[.ref p]/\(SqL X.K H p ys∨SqT X.K H p ys)/\Q (.int ys.length) H):=by
 intro pins s σ H xs us Q I r h;obtain⟨p,ys,rfl,hq,q⟩:=h;obtain⟨u,rfl,rx⟩:=vals1 r;cases rx;have hn:=Qdv;rcases hq with hq | hq
 ·obtain⟨its,r',pl,hz⟩:=I.list hq;have hlen:=r'.length;exact Calls.call_len_list pl.isList (by simp only[Qj]<;>omega) ⟨.int ys.length,H,I.tok _,⟨s.toks+1,by rw[Qj,hlen]⟩,q⟩
 ·obtain⟨its,r',pl,hz⟩:=I.tuple hq;have hlen:=r'.length;exact len_tuple pl (by simp only[Qj]<;>omega) ⟨.int ys.length,H,I.tok _,⟨s.toks+1,by rw[Qj,hlen]⟩,q⟩
theorem Qbo:CallR X (.builtin "len") (λxs H Q=>∃z,xs=[.str z]/\z.length<=sizeLine/\Q (.int z.length) H):=by
 intro pins s σ H xs us Q I r h;obtain⟨z,rfl,hz,q⟩:=h;obtain⟨u,rfl,t,rfl⟩:=vals1 r;have hn:=Qdv;exact len_str (by omega) ⟨.int z.length,H,I.tok _,⟨_,rfl⟩,q⟩
theorem Qgw:CallR X (.type "list") (λxs H Q=>∃p ys,xs=[.ref p]/\(SqL X.K H p ys∨SqT X.K H p ys)/\∀l,H l=none->Q (.ref l) (upd H l (.lst ys))):=by
 intro pins s σ H xs us Q I r h;obtain⟨p,ys,rfl,hq,q⟩:=h;obtain⟨u,rfl,rx⟩:=vals1 r;cases rx;have fin:∀(its:List Value),Vals ys its->ys.length<=sizeLine->∀(h':JR)(c':Nat),(∀b o',s.heap.get? b=some o'->h'.get? b=some o') ->
   h'.get? s.heap.objs.size=some { cls:=.type "list",dict:=none,data:=.seq its.toArray c',slots:=#[] }->EP X pins σ Q (.ref s.heap.objs.size) { s with heap:=h' }:=λits r' hz h' c' kp e=>
  ⟨.ref s.heap.objs.size,_,I.laid (t':=s.toks) kp (Qh _) (show ObjOk X.prog X.w _ h' _ (.lst ys) from⟨hz,its,c',r',e⟩),rfl,q _ (I.hok.fresh (Qh _))⟩
 rcases hq with hq | hq
 ·obtain⟨its,r',pl,hz⟩:=I.list hq;have hlen:=r'.length;obtain⟨o,ho,hc,n,hd⟩:=pl.isList;exact call_list_seq p (.inl rfl) ho hc hd (λh' c' kp e=>fin its r' hz h' c' kp e) (by simp only[Qj]<;>omega)
 ·obtain⟨its,r',pl,hz⟩:=I.tuple hq;have hlen:=r'.length;obtain⟨o,ho,hc,n,hd⟩:=pl;exact call_list_seq p (.inr rfl) ho hc hd (λh' c' kp e=>fin its r' hz h' c' kp e) (by simp only[Qj]<;>omega)
theorem Qcj:CallR X (.type "tuple") (λxs H Q=>∃p ys,xs=[.ref p]/\((SqL X.K H p ys/\∀l,H l=none->Q (.ref l) (upd H l (.tup ys)))∨(SqT X.K H p ys/\Q (.ref p) H))):=by
 intro pins s σ H xs us Q I r h;obtain⟨p,ys,rfl,h⟩:=h;obtain⟨u,rfl,rx⟩:=vals1 r;cases rx;rcases h with⟨hq,q⟩ | ⟨hq,q⟩
 ·obtain⟨its,r',pl,hz⟩:=I.list hq;have hlen:=r'.length;refine call_tuple_list pl.isList (λh' kp=>?_) (by simp only[Qj]<;>omega);have I1:Inv X pins σ H { s with heap:=h' }:=I.kept (t':=s.toks) kp;have I2:Inv X pins σ (upd H h'.objs.size (.tup ys)) { s with heap:=h'.push { cls:=.type "tuple",data:=.seq its.toArray } }:=
   I1.laid (t':=s.toks) (λb o e=>Qc _ e) (Qh _) (show ObjOk X.prog X.w _ _ _ (.tup ys) from⟨hz,its,r',TupN.new _ _⟩)
  exact⟨.ref h'.objs.size,_,I2,rfl,q _ (I1.hok.fresh (Qh _))⟩
 ·obtain⟨its,r',pl,hz⟩:=I.tuple hq;exact call_tuple_same pl ⟨.ref p,H,I,rfl,q⟩
def tyV(K:PySem.W.Frag)(T:String)(x:V)(H:Hp):Prop:=match x with
 |.str _=>T = "str"
 |.int _=>T = "int"
 |.ref p=>(T = "list" /\ ∃xs,SqL K H p xs)∨(T = "tuple" /\ ∃o,K.lookup p=some o/\o.cls=.type "tuple" /\ o.dict=none) ∨
   (T = "dict" /\ ((∃kvs,H p=some (.dK kvs))∨∃kvs,H p=some (.dT kvs)))∨(T = "set" /\ ∃S n,H p=some (.set S n))
 |_=>False
theorem Qte{pins:List (Addr×Obj)}{σ:St}{H:Hp}{s:Shared}{T:String}{x:V}{v:Value}(I:Inv X pins σ H s)(r:RelV x v)(ty:tyV X.K T x H) :
  s.TypeIs v T/\∀a,v=.ref a->∃ob,s.heap.get? a=some ob/\ob.dict=none:=by
 cases x with
 |str z=>
  obtain⟨t,rfl⟩:=r;cases(show T = "str" from ty);exact⟨Ql3 s z t,λ_ e=>nomatch e⟩
 |int i=>
  obtain⟨t,rfl⟩:=r;cases(show T = "int" from ty);exact⟨QvT s i t,λ_ e=>nomatch e⟩
 |ref p=>
  cases r;rcases ty with⟨rfl,xs,hq⟩ | ⟨rfl,o,hk,hc,hd⟩ | ⟨rfl,hk⟩ | ⟨rfl,S,n,hk⟩
  ·obtain⟨its,_,pl,_⟩:=I.list hq;refine⟨pl.isList.typeIs,λa e=>?_⟩;cases e;obtain⟨o,n,e,c,hd,_⟩:=pl;exact⟨o,e,hd⟩
  ·refine⟨⟨o,I.kIn p o hk,hc⟩,λa e=>?_⟩;cases e;exact⟨o,I.kIn _ o hk,hd⟩
  ·have z:∃o,s.heap.get? p=some o/\o.ExactDict:=by
    rcases hk with⟨kvs,hk⟩ | ⟨kvs,hk⟩
    ·obtain⟨_,_,_,_,o,_,_,e,ex,_⟩:=I.hok p _ hk;exact⟨o,e,ex⟩
    ·obtain⟨_,_,_,_,o,_,_,e,ex,_⟩:=I.hok p _ hk;exact⟨o,e,ex⟩
   obtain⟨o,e,ex⟩:=z;refine⟨⟨o,e,ex.1⟩,λa e2=>?_⟩;cases e2;exact⟨o,e,ex.2.1⟩
  ·obtain⟨o,_,_,_,e,ex,_⟩:=I.hok p _ hk;refine⟨⟨o,e,ex.1⟩,λa e2=>?_⟩;cases e2;exact⟨o,e,ex.2.1⟩
 |_=>exact ZK ty
def tBM(K:PySem.W.Frag)(T:String)(r:V->List V->Hp->VK->Prop)(to:TE)(t:TA):TE:=λσ H Q=>to σ H λx H1=>tyV K T x H1/\t σ H1 λxs H2=>r x xs H2 Q
variable{o e:QR}{es:List QR}{to:TE}{t:TA}{name:Str}{apos cpos:Pos}{T id:String}{r:V->List V->Hp->VK->Prop}
theorem Qg8(pa:PlainAttrs T)(slot:Slot T name id)(hty:typeOf (.builtin id)=pure (.type "method_descriptor"))(hm:MtR X id r)(ho:PE X o to)(ha:PA X (e::es) t)
  (hbase:attributeBase o name X.env (eval o X.env)=eval o X.env:=by rfl)
  (hfew:((backTo cpos (starEach (e::es) X.env)).all (λx => !x.1)&&(backToKw cpos (keywordEach [] X.env)).all (λx=>x.1.isSome)
   && decide ((e::es).length+([]:List Qac).length+(if([]:List Qac).isEmpty then 0 else 1)<30))=true:=by rfl)
  (hline:(apos.endLine == cpos.line)=true:=by rfl) (hs:starEach (e::es) X.env=(false,eval e X.env)::starEach es X.env:=by rfl) (hplain:(backTo cpos (starEach es X.env)).any (·.1)=false:=by rfl) :
  PE X (.Call (.Attribute o name apos) (e::es) [] cpos) (tBM X.K T r to t):=by
 intro pins s σ H Q I h;refine Qoe hbase hfew hline rfl (thn (ho pins s σ H _ I h) λv s1 ⟨x,H1,I1,r1,ty,q1⟩=>?_);obtain⟨h1,h2⟩:=Qte I1 r1 ty;refine⟨T,id,pa,slot,hty,h1,h2,?_⟩;have hA:=ha cpos pins s1 σ H1 _ I1 q1;rw[hs] at hA ⊢;refine QhM (by show(false||(backTo cpos (starEach es X.env)).any (·.1))=false;rw[hplain]<;>rfl) (Qb4 ?_);exact thn hA λus s2 ⟨vs,H2,I2,r2,q2⟩=>hm pins s2 σ H2 x vs v us Q I2 r1 r2 q2
end
def MtM(X:Cx)(id:String)(r:V->List V->Hp->VK->Prop):Prop:=
 ∀(pins:List (Addr×Obj))(s:Shared)(σ:St)(H:Hp)(x:V)(xs:List V)(v:Value)(us:List Value)(Q:VK),Inv X pins σ H s->RelV x v->Vals xs us->r x xs H Q ->
  wpAny (model X.prog X.w) X.A (call (.builtin id) (v::us)) (EP X pins σ Q) X.xe s
theorem Vals.one:∀{x:V}{us:List Value},Vals [x] us->∃u,us=[u]/\RelV x u
 |_,_,.cons r .nil=>⟨_,rfl,r⟩
theorem Vals.zero:∀{us:List Value},Vals [] us->us=[]
 |_,.nil=>rfl
theorem Vals.eraseIdx:∀{xs:List V}{us:List Value}(i:Nat),Vals xs us->Vals (xs.eraseIdx i) (us.eraseIdx i)
 |_,_,_,.nil=>.nil
 |_,_,0,.cons _ t=>t
 |_,_,i+1,.cons r t=>.cons r (Vals.eraseIdx i t)
theorem Vals.rep{xs:List V}{us:List Value}(h:Vals xs us):∀k:Nat,Vals (Q4 k xs).flatten (Q4 k us).flatten
 |0=>.nil
 |k+1=>by
  rw[JX,JX,Zy,Zy];exact Vals.append h (Vals.rep h k)
theorem Qgj{α:Type}:∀(l:List α)(i:Nat),(l.eraseIdx i).length<=l.length
 |[],_=>Qh _
 |_::_,0=>QfH _
 |_::r,i+1=>Nat.succ_le_succ (Qgj r i)
theorem foldl_rep(its:List Value):∀(k:Nat)(acc:List Value),
  Qom (λx1 x2=>x1++x2) acc.toArray (Q4 k its.toArray)=(acc++(Q4 k its).flatten).toArray
 |0,acc=>by simp
 |k+1,acc=>by
  have e:acc.toArray++its.toArray=(acc++its).toArray:=by simp
  have e2:(acc++its)++(Q4 k its).flatten=acc++(Q4 (k+1) its).flatten:=by
   rw[JX,Zy,QdQ]
  rw[<- e2,<- foldl_rep its k (acc++its),<- e,JX,List.foldl_cons]
section
variable{X:Cx}{pins:List (Addr×Obj)}{σ:St}{H:Hp}{s:Shared}{l b:Addr}{xs ys zs:List V}
theorem Inv.lset{its its':List Value}{n:Nat}{f:Array Value->Array Value}{t':Nat}(I:Inv X pins σ H s)(hH:H l=some (.lst xs))
  (e:s.heap.get? l=some { cls:=.type "list",data:=.seq its.toArray n })(hf:f its.toArray=its'.toArray)(hv:Vals ys its')(hz:ys.length<=sizeLine) :
  Inv X pins σ (upd H l (.lst ys)) { s with heap:=s.heap.update l (Z6 f),toks:=t' }:=by
 have q:=PySem.IsL.update e f;rw[hf] at q;refine I.write (x:=l) (e:=l) (by rw[hH];exact trivial) (.inl rfl) (λb' u hb hu=>(Qiz s.heap (Z6 f) (Qa9 hb)).trans hu) ⟨_,q⟩ ?_
 exact⟨hz,its',_,hv,q⟩
theorem Inv.lnew{its:List Value}{t':Nat}(I:Inv X pins σ H s)(hv:Vals ys its)(hz:ys.length<=sizeLine) :
  Inv X pins σ (upd H s.heap.objs.size (.lst ys)) { s with heap:=s.heap.push { cls:=.type "list",data:=.seq its.toArray },toks:=t' }:=
 I.laid (λ_ _ q=>Qc _ q) (Qh _) ⟨hz,its,0,hv,Qu _ rfl⟩
theorem Inv.fresh(I:Inv X pins σ H s):H s.heap.objs.size=none:=I.hok.fresh (Qh _)
theorem Inv.lstM(I:Inv X pins σ H s)(hH:H l=some (.lst xs)):xs.length<=sizeLine/\∃(its:List Value)(n:Nat),Vals xs its/\xs.length=its.length/\s.heap.get? l=some { cls:=.type "list",data:=.seq its.toArray n }:=by
 obtain⟨z,its,n,r,e⟩:=I.hok l _ hH;exact⟨z,its,n,r,r.length,e⟩
theorem Qnu{n:Nat}(h:n<=sizeLine):Qah n=false:=by
 unfold Qah;exact decide_eq_false (by omega)
end
section
variable{X:Cx}
def Qg1:V->List V->Hp->VK->Prop:=λx vs H Q=>∃l xs y,x=.ref l/\vs=[y]/\H l=some (.lst xs)/\xs.length<sizeLine/\Q .non (upd H l (.lst (xs++[y])))
theorem Qdr:MtM X "list.append" Qg1:=by
 intro pins s σ H x vs v us Q I rx rv h;obtain⟨l,xs,y,rfl,rfl,hH,hz,q⟩:=h;cases rx;obtain⟨u,rfl,ru⟩:=rv.one;obtain⟨z,its,n,r,hl,e⟩:=I.lstM hH;refine Y8 F.slot_list_append ⟨_,e,rfl⟩ F.entry_list_append (F.args_list_append_2 _ _) (PySem.list_append l its.toArray n u (by rw[Qj];omega)) ⟨e,?_⟩;refine⟨.non,_,I.lset (its':=its++[u]) hH e (by simp) (r.append (.cons ru .nil)) ?_,rfl,q⟩;rw[QM,List.length_singleton];omega
def QoC:V->List V->Hp->VK->Prop:=λx vs H Q=>∃l xs i k y,x=.ref l/\vs=[.int i]/\H l=some (.lst xs) /\ -(2^63)<=i/\i<2^63/\seqIndex? i xs.length=some k/\xs[k]? = some y/\Q y (upd H l (.lst (xs.eraseIdx k)))
theorem QnA:MtM X "list.pop" QoC:=by
 intro pins s σ H x vs v us Q I rx rv h;obtain⟨l,xs,i,k,y,rfl,rfl,hH,h1,h2,hk,hy,q⟩:=h;cases rx;obtain⟨u,rfl,ru⟩:=rv.one;obtain⟨t,rfl⟩:=ru;obtain⟨z,its,n,r,hl,e⟩:=I.lstM hH;obtain⟨w,hw,rw'⟩:=r.get hy;refine Y8 F.slot_list_pop ⟨_,e,rfl⟩ F.entry_list_pop (F.args_list_pop_2 _ _)
  (MeetsSeq.list_pop_at l its.toArray n i t k w (fitsIndex_both h1 h2) (by rw[Qj,<- hl];exact hk) (by rw[<- QiA];exact hw) (by rw[Qj];omega)) ⟨e,?_⟩
 refine⟨y,_,I.lset (its':=its.eraseIdx k) hH e ?_ (r.eraseIdx k) ?_,rw',q⟩
 ·show its.toArray.eraseIdxIfInBounds k=(its.eraseIdx k).toArray;rw[List.eraseIdxIfInBounds_toArray]
 ·have:=Qgj xs k;omega
def QxR:R2:=λx y H Q=>∃l b xs zs,x=.ref l/\y=.ref b/\H l=some (.lst xs)/\H b=some (.lst zs)/\xs.length+zs.length<=sizeLine/\∀p,H p=none->Q (.ref p) (upd H p (.lst (xs++zs)))
theorem Qul:OpR X (binaryOp .Add) QxR:=by
 intro pins s σ H x y v u Q I rx ry h;obtain⟨l,b,xs,zs,rfl,rfl,hH,hB,hz,q⟩:=h;cases rx;cases ry;obtain⟨z,its,n,r,hl,e⟩:=I.lstM hH;obtain⟨z2,its2,n2,r2,hl2,e2⟩:=I.lstM hB;refine PySem.P.add_list e e2 ?_ (by rw[Qj,Qj];omega)
 have ea:its.toArray++its2.toArray=(its++its2).toArray:=by simp
 rw[ea];exact⟨.ref _,_,I.lnew (t':=s.toks) (r.append r2) (by rw[QM];omega),rfl,q _ I.fresh⟩
def QxJ:R2:=λx y H Q=>∃l k xs,x=.ref l/\y=.int k/\H l=some (.lst xs) /\ -(2^63)<=k/\k<2^63/\xs.length*k.toNat<=sizeLine /\
 ∀p,H p=none->Q (.ref p) (upd H p (.lst (Q4 k.toNat xs).flatten))
theorem Qr5{α:Type}(xs:List α)(k:Nat):(Q4 k xs).flatten.length=k*xs.length:=by
 induction k with
 |zero=>simp
 |succ k ih=>rw[JX,Zy,QM,ih,Qd6,Nat.add_comm]
theorem Quc:OpR X (binaryOp .Mult) QxJ:=by
 intro pins s σ H x y v u Q I rx ry h;obtain⟨l,k,xs,rfl,rfl,hH,h1,h2,hz,q⟩:=h;cases rx;obtain⟨t,rfl⟩:=ry;obtain⟨z,its,n,r,hl,e⟩:=I.lstM hH;have hlen:its.toArray.size*k.toNat<=sizeLine:=by rw[Qj,<- hl];exact hz
 have hcap:¬its.toArray.size*k.toNat > (2^63 - 1) / 8:=by
  have:(sizeLine:Nat)<=(2^63 - 1) / 8:=by decide
  omega
 have hfit:¬(!Builtin.List.listFitsIndex k)=true:=by
  rw[fitsIndex_both h1 h2];exact Qo
 have hlong:¬Qah (its.toArray.size*k.toNat)=true:=by
  rw[Qnu hlen];exact Qo
 have hnew:Qom (λx1 x2=>x1++x2) #[] (Q4 (if its.toArray.isEmpty=true then 0 else k.toNat) its.toArray)=(Q4 k.toNat its).flatten.toArray:=by
  have f0:∀m:Nat,Qom (λx1 x2=>x1++x2) #[] (Q4 m its.toArray)=(Q4 m its).flatten.toArray:=λm=>by
   have:=foldl_rep its m [];rw[QsR] at this;exact this
  rw[f0];cases its with
  |nil=>simp
  |cons a r'=>rw[if_neg (by simp)]
 refine wpAny_binaryOp_repeat_ref (T := "list") (U := "int") (by decide) ⟨_,e,rfl⟩ (λs'=>QvT s' k t) noFill_list_mul F.fills_int_mul Qwc repeat_list F.slot_int_index.lookup
  (Y8 Qwc (QvT s k t) F.entry_int_rmul (F.args_int_rmul_2 _ _) (int___rmul___int_list k t l its.toArray n)
   ⟨e,rfl,⟨_,e,rfl⟩,Y8 F.slot_list_mul ⟨_,e,rfl⟩ F.entry_list_mul (F.args_list_mul_2 _ _) (AutoListH.list___mul___list_int_3 l its.toArray n k t hfit hcap hlong) ⟨e,?_⟩⟩)
 rw[hnew];exact⟨.ref _,_,I.lnew (t':=s.toks) (r.rep k.toNat) (by rw[Qr5,Nat.mul_comm];exact hz),rfl,q _ I.fresh⟩
end
section
variable{prog:Qz}{w:Jf}{A:Jb}{E:Value->Shared->Prop}{s:Shared}
end
section
variable{X:Cx}
end
end L2
namespace Att
open PySem.W PySem.Calls
theorem Qdw{P:Params}{h:JR}:∀(ns:List Int)(vs:List Value),WellAll P h vs (ns.map WData.int)->QbB vs ns:=by
 intro ns;induction ns with
 |nil=>
  intro vs w;rw[Qv8] at w;cases w;exact .nil
 |cons n ns ih=>
  intro vs w;rw[JT] at w;cases w with
  |cons a b=>
   cases a;exact .cons _ _ (ih _ b)
theorem Qj2{l:OpenLaw}{n:Nat}(hn:l.most=some n){P:Params}{h:JR}{args:List WData}{vals:List Value}
  (hpre:l.row.toRowW.claim.pre args=true)(hwl:WellAll P h vals args) :
  ∃a vs ns,vals=[JP a]/\args=[WData.list (ns.map WData.int)]/\h.get? a=some { cls:=.type "list",data:=.seq vs.toArray }/\QbB vs ns/\ns.length<=n:=by
 have hsh:WShape.hasAll [] args [.list .int]=true:=(pre_splitW hpre).1;have hc:l.pre.holds [] { args:=args }=true:=(pre_splitW hpre).2;obtain⟨d,r,rfl,h1,h2⟩:=hasAllW_cons hsh;obtain rfl:=hasAllW_nil h2;obtain⟨xs,rfl,h3⟩:=hasW_list h1;obtain⟨ns,rfl⟩:=items_int h3;have hlen:ns.length<=n:=by
  unfold OpenLaw.pre at hc;have h4:(WTm.not (.lt (.lit (.int (n:Int))) (.len (.arg 0)))).holds [] { args:=[.list (ns.map .int)] }=true:=by
   have h4:=(holds_andW hc).1;rw[hn] at h4;exact h4
  have h5:=condW_of h4 (w_not (w_lt w_lit (w_len_list (w_arg rfl))));rw[Qe] at h5;refine Nat.le_of_not_lt λq=>?_
  have q':(n:Int)<((ns.length:Nat):Int):=by omega
  first
   |(rw[decide_eq_true q'] at h5;exact absurd h5 (by decide))
   |(simp at h5;omega)
 cases hwl with
 |cons w1 w2=>
  cases w2;cases w1 with
  |list ho hall=>exact⟨_,_,ns,rfl,rfl,ho,Qdw ns _ hall,hlen⟩
theorem Qkp(l:OpenLaw)(args:List WData):l.row.toRowW.claim.post args (.bool true) args=true:=
 postW_of (r:=l.row.toRowW) (X:=(true == true))
  (show QvX [] (.bool true) .bool=true by first | rfl | decide | simp[QvX,WShape.arms,WShape.armsAll])
  (show(WTm.eq .res (.lit (.bool true))).value [] { args:=args,res:=some (.bool true),after:=args }=some (.bool (true == true)) from w_eq_bool (w_res rfl) w_lit) rfl
theorem QhD{l:OpenLaw}{n:Nat}{q:Qz}{loose:List Str}{XP:(Str->Option Value)->JR->Prop}{YP:Jf->JR->Prop}{d:DefRec}
  (hn:l.most=some n)(hdf:d.params.defaults=[])
  (call:∀(w:Jf)(s₀ s₁:Shared)(mg mb:Str->Option Value)(fa:Addr)(o:Obj)(pm cd doc:Value)(a:Addr)(vs:List Value)(ns:List Int),
   Ground q loose [] XP w s₀ mg mb s₁.heap->YP w s₁.heap ->
   s₁.heap.get? fa=some o->o.data=.func (docDef d.name d.params d.body d.scope pm cd doc)->s₁.heap.CodeRec cd d.name->mg d.name=some (.ref fa) ->
   s₁.heap.get? a=some { cls:=.type "list",data:=.seq vs.toArray }->QbB vs ns->ns.length<=n->s₁.gens=#[] ->
   codeAny (model l.prog w) callerA (.call (.ref fa) ⟨[.ref a],[]⟩) (λr s'=>r=.ok (.ret (.bool true))/\OldK s₁.heap s'.heap/\s'.os=s₁.os/\QcZ s'.gens) s₁) :
  WalkO q loose XP YP l.row.toRowW d [] (λf vs=>PySem.call f vs):=by
 intro w s₀ s₁ mg mb G Y fa o pm cd doc dV kV ho hd hcd hD hmg hg args vals as hpre hlay hrd hwl hlo;obtain rfl:dV=.none:=Dflts.none hD hdf;obtain rfl:kV=.none:=Dflts.noKw hD;obtain⟨a,vs,ns,rfl,rfl,hobj,hints,hlen⟩:=Qj2 hn hpre hwl;refine enter_call (QgH (call w s₀ s₁ mg mb fa o pm cd doc a vs ns G Y ho (fd_plain hd) hcd hmg hobj hints hlen hg) λr s' hq=>?_);obtain⟨rfl,h2,h3,h4⟩:=hq;exact⟨.inl ⟨.bool true,.bool true,[],rfl,λ_=>rfl,.bool true,Qkp l _,λ_=>⟨Qv9,λ_ hm=>(nomatch hm)⟩⟩,h2,h3,h4⟩
section
variable{prog:Qz}{w:Jf}{A:Jb}{E:Value->Shared->Prop}{s:Shared}{K:Frag}
end
end Att
namespace L2
theorem QfN:∀{vs:List Value}{ns:List Int},QbB vs ns->Vals (ns.map V.int) vs
 |_,_,.nil=>.nil
 |_,_,.cons n t h=>.cons ⟨t,rfl⟩ (QfN h)
def QxB(H:Hp):Prop:=∀b,H b=none∨∃o xs,H b=some (.frz o (.lst xs))
theorem QnG{P:Qz}{w:Jf}{K:PySem.W.Frag}{mg mb:Str->Option Value}{CX:CXT}{k:Nat}{fa a:Addr}{fd:QN}{x:Str}{sp:Sp}{s₁:Shared}{vs:List Value}{ns:List Int}
  (KX:K.In s₁.heap)(hns:s₁.heap.Ns mainGlobals mg)(hb:s₁.heap.Ns builtinsNs mb)(hbb:∀x:Str,x ≠ "__name__" -> mb x=bootBuiltins x)(hlim:s₁.heap.NoLimit)(hg:s₁.gens=#[])
  (ha:s₁.heap.get? a=some { cls:=.type "list",data:=.seq vs.toArray })(hi:QbB vs ns)(hl:ns.length<=sizeLine)(hr:Room k callerA)
  (F:∀base:JR,K.In base->base.Ns mainGlobals mg->FnOk P w K mg base CX k fa fd [x] sp)(hbind:∀(s:Shared)(u:Value),Qmk s fd ⟨[u],[]⟩ [(x,u)])
  (hsp:∀H:Hp,QxB H->SqL K H a (ns.map V.int)->sp [.ref a] H (λv _=>v=.bl true) λ_ _ _=>False)
  (hCX:∀H e s',CX [] H s₁ (λ_ _ _=>False) e s'->False) :
  codeAny (model P w) callerA (.call (.ref fa) ⟨[.ref a],[]⟩) (λr s'=>r=.ok (.ret (.bool true))/\OldK s₁.heap s'.heap/\s'.os=s₁.os/\QcZ s'.gens) s₁:=by
 have rv:=QfN hi;have lenV:=hi.length;have core:∀H:Hp,QxB H->SqL K H a (ns.map V.int)->HOk P w H s₁.heap->(∀b,H b≠none->b=a)->(H a≠none->K.lookup a=none) ->
   codeAny (model P w) callerA (.call (.ref fa) ⟨[.ref a],[]⟩) (λr s'=>r=.ok (.ret (.bool true))/\OldK s₁.heap s'.heap/\s'.os=s₁.os/\QcZ s'.gens) s₁:=by
  intro H hO hS hok hA hK;have base_of:∀{b:Addr}{o:Obj},s₁.heap.get? b=some o->H b=none->(QnN s₁.heap H).get? b=some o:=λe n=>QnM e n
  have noA:∀{b:Addr}{o:Obj}{es:Array DictEntry}{ep:Nat},s₁.heap.get? b=some o->o.data=.dict es ep->H b=none:=λ{b o es ep} e d=>by
   cases q:H b with
   |none=>rfl
   |some u=>
    have e':b=a:=hA b (by rw[q];simp);subst e';rw[ha] at e;cases e;have d':Data.seq vs.toArray _=Data.dict es ep:=d;cases d'
  have nsK:∀{b:Addr}{m:Str->Option Value},s₁.heap.Ns b m->(QnN s₁.heap H).Ns b m:=λ{b m} ⟨o,es,ep,e,d,r⟩=>⟨o,es,ep,base_of e (noA e d),d,r⟩
  have hKb:K.In (QnN s₁.heap H):=λb o e=>base_of (KX b o e) (by
   cases q:H b with
   |none=>rfl
   |some u=>
    have e':b=a:=hA b (by rw[q];simp);subst e';rw[hK (by rw[q];simp)] at e;cases e)
  have hM:Mod K mg (QnN s₁.heap H):=⟨hKb,nsK hns,⟨mb,nsK hb,hbb⟩,let ⟨mc,h1,h2⟩:=hlim;⟨mc,nsK h1,h2⟩⟩;have e0:Env0 P w K mg (QnN s₁.heap H) callerA [] s₁ H:=⟨rfl,hM,λb o e=>QrW e,Nat.le_of_eq (Qle _ _),trivial,λb hb=>absurd (show b∈([]:List Addr) from hb) (by simp),hok,.of_eq hg⟩;refine QgH ((F _ hKb (nsK hns)).run callerA [] s₁ H ⟨[.ref a],[]⟩ [.ref a] [.ref a] _ _ hr e0 (hbind s₁ (.ref a)) (.cons rfl .nil) (hsp H hO hS)) λr s' h=>?_
  cases r with
  |error e=>exact(hCX H e s' h).elim
  |ok fl=>
   cases fl with
   |next=>exact ZK h
   |brk=>exact ZK h
   |cont=>exact ZK h
   |ret u=>
    obtain⟨v,H',os,bare,un,hok',r',q⟩:=h;have q':v=.bl true:=q;subst q';obtain rfl:u=Qa2 true:=r';refine⟨rfl,OldK.of_keep λb o e=>?_,os,bare⟩;cases q:H b with
    |none=>exact un.keep b o e q (by intro z;exact absurd (show b∈([]:List Addr) from z) (by simp)) (by simp)
    |some u=>
     rcases hO b with z | ⟨ob,xs,z⟩
     ·rw[q] at z;cases z
     ·have z2:=un.frzs b ob _ z;obtain⟨e1,_⟩:=hok b _ z;obtain⟨e2,_⟩:=hok' b _ z2;rw[e] at e1;cases e1;exact e2
 cases hk:K.lookup a with
 |some o=>
  have e:=KX a o hk;rw[ha] at e;cases e;refine core (λ_=>none) (λ_=>.inl rfl) (.inr ⟨_,vs.toArray,_,hk,rfl,rfl,rfl,by rw[Qj,lenV];exact hl,by simpa using rv⟩) (λb u z=>by have z':(none:Option HO)=some u:=z;cases z') (λb z=>absurd rfl z) λz=>absurd rfl z
 |none=>
  refine core (λb=>if b=a then some (.frz { cls:=.type "list",data:=.seq vs.toArray } (.lst (ns.map V.int))) else none) (λb=>?_) (.inl (.inr ⟨{ cls:=.type "list",data:=.seq vs.toArray },if_pos rfl⟩)) (λb u z=>?_) (λb z=>?_) λ_=>hk
  ·by_cases hb:b=a
   ·exact .inr ⟨_,_,if_pos hb⟩
   ·exact .inl (if_neg hb)
  ·by_cases hb:b=a
   ·have z':=(if_pos hb).symm.trans z;cases z';subst hb;exact⟨ha,by rw[Qe];exact hl,vs,_,rv,ha⟩
   ·have z':=(if_neg hb).symm.trans z;cases z'
  ·by_cases hb:b=a
   ·exact hb
   ·exact absurd (if_neg hb) z
theorem QpB{l:PySem.W.OpenLaw}{n k:Nat}{q:Qz}{loose:List Str}{XP:(Str->Option Value)->JR->Prop}{YP:Jf->JR->Prop}{d:DefRec}{K:Params->PySem.W.Frag}{CX:Jf->CXT}{sp:Jf->Sp}{x:Str}
  (hn:l.most=some n)(hn2:n<=sizeLine)(hdf:d.params.defaults=[])(hr:Room k callerA)
  (hY:∀(w:Jf)(h:JR),YP w h->(K w.params).In h)
  (F:∀(w:Jf)(mg:Str->Option Value)(fa:Addr)(h:JR),(K w.params).In h->h.Ns mainGlobals mg->mg d.name=some (.ref fa) ->
   ∃fd:QN,(∀(s:Shared)(u:Value),Qmk s fd ⟨[u],[]⟩ [(x,u)]) /\
    ∀base:JR,(K w.params).In base->base.Ns mainGlobals mg->FnOk l.prog w (K w.params) mg base (CX w) k fa fd [x] (sp w))
  (hsp:∀(w:Jf)(H:Hp)(a:Addr)(ns:List Int),ns.length<=n->QxB H->SqL (K w.params) H a (ns.map V.int)->sp w [.ref a] H (λv _=>v=.bl true) λ_ _ _=>False)
  (hCX:∀(w:Jf)(H:Hp)(s:Shared)(e:Value)(s':Shared),CX w [] H s (λ_ _ _=>False) e s'->False) :
  PySem.W.WalkO q loose XP YP l.row.toRowW d [] (λf vs=>PySem.call f vs):=by
 refine Att.QhD hn hdf λw s₀ s₁ mg mb fa o pm cd doc a vs ns G Y ho hd hcd hmg hobj hints hlen hg=>?_
 have KX:=hY w _ Y;obtain⟨fd,hb,hF⟩:=F w mg fa _ KX G.T.g hmg;exact QnG KX G.T.g G.T.b G.T.builtins G.T.nolimit hg hobj hints (QJ hlen hn2) hr hF hb (λH hO hS=>hsp w H a ns hlen hO hS) λH e s'=>hCX w H s₁ e s'
def Jx(s:ZG):Arguments:=match s with
 |.FunctionDef _ a _ _ _ _ _ _ _ _=>a
 |_=>{ posonlyargs:=[],args:=[],vararg:=none,kwonlyargs:=[],kw_defaults:=[],kwarg:=none,defaults:=[] }
def Jj(s:ZG):List ZG:=match s with
 |.FunctionDef _ _ b _ _ _ _ _ _ _=>b
 |_=>[]
def Qt(s:ZG):YW:=match s with
 |.FunctionDef _ _ _ _ _ _ sc _ _ _=>sc
 |_=>{ kind:=.function,names:=[],isGenerator:=false,isCoroutine:=false }
abbrev CX0:CXT:=λ_ _ _ _ _ _=>False
abbrev E0:XK:=λ_ _ _=>False
theorem QrD{X:Cx}:Qcm CX0 X E0:=λ_ _ _ _ _ _ _ h=>h.elim
structure Fun (K:PySem.W.Frag) (x qual:Str) (st:ZG) (f:Addr) (fd:QN):Prop where
 ex:∃(oc:Value)(od:Option Addr)(kV doc pm:Value)(an:Option Addr)(cdv ct:Value)(osl:Array (Option Value)),
  fd=PySem.W.fnOf x qual (Jx st) (Jj st) (Qt st) .none kV doc pm an cdv ct/\K.lookup f=some ⟨oc,od,.func fd,osl⟩/\PySem.W.codeIn K cdv qual=true
 kp:PySem.W.keepIn K (.ref f)=true
section
variable{P:Qz}{w:Jf}{K:PySem.W.Frag}{mg:Str->Option Value}{base:JR}
theorem Fun.ok{x qual:Str}{st:ZG}{f:Addr}{fd:QN}{N ps:List Str}{k:Nat}{sp:Sp}(F:Fun K x qual st f fd)(S:Jq N ps (Qt st))(len:∀vs H Q E,sp vs H Q E->vs.length=ps.length)
  (hbody:∀(cdv:Value)(A:Jb)(outer:List Env)(s:Shared)(H:Hp)(vs:List V)(Q:VK)(E:XK),Room k (A.deeper (envOfC qual (Qt st) s.heap.objs.size f cdv))->sp vs H Q E ->
   ∃t,PSs (QlA CX0 P w K mg base N qual (Qt st) f cdv A outer s H E).nox (Jj st) t/\t { nx:=λ_ H'=>Q .non H',rt:=Q } (start N vs) H):FnOk P w K mg base CX0 (k+1) f fd ps sp:=by
 obtain⟨oc,od,kV,doc,pm,an,cdv,ct,osl,rfl,lk,hcd⟩:=F.ex;refine QuP lk hcd S len λA outer s H vs Q E hr hsp=>?_
 obtain⟨t,h,q⟩:=hbody cdv A outer s H vs Q E hr hsp;exact⟨t,h.nox,q⟩
theorem Fun.binds{x qual:Str}{st:ZG}{f:Addr}{fd:QN}{ps:List Str}(F:Fun K x qual st f fd)
  (h:∀(kV doc pm:Value)(an:Option Addr)(cdv ct:Value)(us:List Value),us.length=ps.length->bindArgs (PySem.W.fnOf x qual (Jx st) (Jj st) (Qt st) .none kV doc pm an cdv ct) ⟨us,[]⟩=pure (ps.zip us)):Binds K fd ps []:=by
 obtain⟨oc,od,kV,doc,pm,an,cdv,ct,osl,rfl,lk,hcd⟩:=F.ex;exact .all (h kV doc pm an cdv ct)
theorem J9{x qual:Str}{st:ZG}{f:Addr}{oc:Value}{od an:Option Addr}{osl:Array (Option Value)}{kV doc pm cdv ct:Value}(l:K.lookup f=some ⟨oc,od,.func (PySem.W.fnOf x qual (Jx st) (Jj st) (Qt st) .none kV doc pm an cdv ct),osl⟩)
  (c:PySem.W.codeIn K cdv qual=true)(k:PySem.W.keepIn K (.ref f)=true):Fun K x qual st f (PySem.W.fnOf x qual (Jx st) (Jj st) (Qt st) .none kV doc pm an cdv ct):=⟨⟨oc,od,kV,doc,pm,an,cdv,ct,osl,rfl,l,c⟩,k⟩
end
section
variable{X:Cx}
theorem pv(i:Nat){x:Str}{pos:Pos}(hN:X.N[i]? = some x:=by rfl)(hv:Vis X.env.scope x:=by first | exact Q1 rfl | exact QY (Q1 rfl) | exact QY (QY rfl))(hd:(x == ("__debug__" : Str))=false:=by decide)
  (hcd:(x == ("__classdict__" : Str))=false:=by decide):PE X (.Name x pos) (Qde i):=QtW hN hv hd hcd
end
theorem Ql6{A B:Prop}(h:B):if false=true then A else B:=by
 rw[if_neg Qo];exact h
theorem Qgk{A B:Prop}(h:A):if true=true then A else B:=by
 rw[if_pos rfl];exact h
theorem QxU{c A B:Prop}[Decidable c](h1:c->A)(h2:¬c->B):if c then A else B:=by
 by_cases h:c
 ·rw[if_pos h];exact h1 h
 ·rw[if_neg h];exact h2 h
def Same(H H':Hp):Prop:=∀b o,H b=some o->H' b=some o
theorem Same.refl(H:Hp):Same H H:=λ_ _ h=>h
theorem Same.trans{H H1 H2:Hp}(a:Same H H1)(b:Same H1 H2):Same H H2:=λc o h=>b c o (a c o h)
theorem Same.free{H H':Hp}(e:Same H H'){l:Addr}(h:H' l=Qvx):H l=Qvx:=by
 cases q:H l with
 |none=>rfl
 |some o=>
  rw[e l o q] at h;cases h
theorem Same.seq{K:PySem.W.Frag}{H H':Hp}{a:Addr}{xs:List V}(e:Same H H')(h:SqL K H a xs):SqL K H' a xs:=by
 rcases h with(h | ⟨o,h⟩) | h
 ·exact .inl (.inl (e _ _ h))
 ·exact .inl (.inr ⟨o,e _ _ h⟩)
 ·exact .inr h
end L2
set_option maxHeartbeats 4000000
namespace Rt
abbrev le (c:YY->YY->Bool) (x y:YY):Prop:=c y x=false
section
variable{c:YY->YY->Bool}
end
structure SB (κ:Qbs) (a₀:Array YY) (st:SortSt):Prop where
 perm:(arrOf st).Perm a₀
 kind:kindOf st=κ
 failed:failedOf st=none
theorem SB.size{κ:Qbs}{a₀:Array YY}{st:SortSt}(h:SB κ a₀ st):(arrOf st).size=a₀.size:=h.perm.size_eq
section
variable{prog:Qz}{w:Jf}{A:Jb}{E:Value->Shared->Prop}{s:Shared}{a₀:Array YY}{κ:Qbs}{c:YY->YY->Bool}
end
section
variable{c:YY->YY->Bool}
variable{a b r:Array YY}{i j k:Nat}
end
structure Sm (st st':SortSt):Prop where
 kind:kindOf st'=kindOf st
 arr:arrOf st'=arrOf st
 pend:pendingOf st'=pendingOf st
 failed:failedOf st'=failedOf st
section
variable{prog:Qz}{w:Jf}{A:Jb}{E:Value->Shared->Prop}{s:Shared}{a₀:Array YY}{κ:Qbs}{c:YY->YY->Bool}
end
section
variable{c:YY->YY->Bool}
variable{a b r:Array YY}{i j t:Nat}
end
section
variable{prog:Qz}{w:Jf}{A:Jb}{E:Value->Shared->Prop}{s:Shared}{a₀:Array YY}{κ:Qbs}{c:YY->YY->Bool}
end
section
variable{c:YY->YY->Bool}
end
section
variable{prog:Qz}{w:Jf}{A:Jb}{E:Value->Shared->Prop}{s:Shared}{a₀:Array YY}{κ:Qbs}{c:YY->YY->Bool}
end
def RunsOk:List (Nat×Nat)->Nat->Nat->Prop
 |[],s,e=>s=e
 |(s',n)::r,s,e=>s'=s/\1<=n/\RunsOk r (s+n) e
theorem RunsOk.le:∀{l:List (Nat×Nat)}{s e:Nat},RunsOk l s e->s+l.length<=e
 |[],s,e,h=>by cases(show s=e from h);exact Qh _
 |(s',n)::l,s,e,⟨_,h2,h3⟩=>by
  have:=RunsOk.le h3;rw[QZ];omega
def sn(p:Nat×Nat×Nat):Nat×Nat:=(p.1,p.2.1)
section
variable{prog:Qz}{w:Jf}{A:Jb}{E:Value->Shared->Prop}{s:Shared}{a₀:Array YY}{κ:Qbs}{c:YY->YY->Bool}
end
end Rt
namespace L2
def blk(X:Cx)(M:List Str)(scope:YW)(cl:List (Str×Addr))(ex:List Addr)(s3:Shared)(H3:Hp)(C:Addr):Cx where
 prog:=X.prog
 w:=X.w
 K:=X.K
 mg:=X.mg
 base:=X.base
 A:=X.A
 N:=M
 s₀:=s3
 H₀:=H3
 env:=compEnvC scope cl C X.env
 outer:=X.stack
 stack:=X.stack
 ex:=ex
 fn:=λ_=>false
 calm:=X.calm
 pn:=[]
 xe:=λ_ _=>False
def Qb0(env:Env):List (Str×Qaf)->List (Str×Addr)->List (Str×Addr)
 |[],acc=>acc
 |(n,k)::r,acc=>Qb0 env r (if k=.free then(n,(env.cells.lookup n).getD 0)::acc else acc)
theorem Qhw{env:Env}:∀(l:List (Str×Qaf))(acc:List (Str×Addr)),(∀x∈l,x.2=.free->∃c,env.cells.lookup x.1=some c) ->
  (forIn (m:=Sem) l acc λx cs=>(if(x.2 == Q3)=true then do let a <- cellOf env x.1;pure (Zc ((x.1,a)::cs)) else pure (Zc cs)))=pure (Qb0 env l acc)
 |[],acc,_=>rfl
 |(n,k)::r,acc,h=>by
  rw[Qfx];by_cases hk:k=.free
  ·subst hk;obtain⟨c,hc⟩:=h (n,.free) QV rfl;have e1:cellOf env n=pure c:=by unfold cellOf;rw[hc]
   have e2:Qb0 env ((n,.free)::r) acc=Qb0 env r ((n,c)::acc):=by
    show Qb0 env r (if Q3=.free then(n,(env.cells.lookup n).getD 0)::acc else acc)=_;rw[if_pos rfl,hc];rfl
   rw[e2];show((if(Q3 == Q3)=true then do let a <- cellOf env n;pure (Zc ((n,a)::acc)) else pure (Zc acc)) >>= _)=_;rw[if_pos (show(Q3 == Q3)=true by decide),e1];exact Qhw r _ λx hx=>h x (Q0 _ hx)
  ·have hb:(k == Q3)=false:=by simpa using hk
   have e2:Qb0 env ((n,k)::r) acc=Qb0 env r acc:=by
    show Qb0 env r (if k=.free then(n,(env.cells.lookup n).getD 0)::acc else acc)=_;rw[if_neg hk]
   rw[e2];show((if(k == Q3)=true then _ else pure (Zc acc)) >>= _)=_;rw[hb,if_neg Qo];exact Qhw r _ λx hx=>h x (Q0 _ hx)
theorem QlE{scope:YW}{env:Env}(h:∀x∈scope.names,x.2=.free->∃c,env.cells.lookup x.1=some c):closureFor scope env=pure (Qb0 env scope.names []):=by
 have e:=Qhw (env:=env) scope.names [] h;unfold closureFor;show(forIn scope.names [] _ >>= _)=_;have e':(forIn (m:=Sem) scope.names ([]:List (Str×Addr)) λx cs=>match x with | (name,kind)=>(if(kind == Q3)=true then do let a <- cellOf env name;pure (Zc ((name,a)::cs)) else pure (Zc cs)))=pure (Qb0 env scope.names []):=e
 first
  |(rw[e'];rfl)
  |(refine Eq.trans (congrArg (λt=>t >>= _) e') ?_;rfl)
theorem Qhx{env:Env}:∀(l:List (Str×Qaf))(acc:List (Str×Addr)),(∀x∈l,x.2=.free->∃c,env.cells.lookup x.1=some c)->(∀x c,acc.lookup x=some c->env.cells.lookup x=some c) ->
  (∀x c,(Qb0 env l acc).lookup x=some c->env.cells.lookup x=some c)/\(∀x c,acc.lookup x=some c->(Qb0 env l acc).lookup x=some c)/\∀x,(x,Q3)∈l->∃c,(Qb0 env l acc).lookup x=some c
 |[],acc,_,ha=>⟨ha,λ_ _ h=>h,λ_ h=>nomatch h⟩
 |(n,k)::r,acc,h,ha=>by
  have hr:∀x∈r,x.2=.free->∃c,env.cells.lookup x.1=some c:=λx hx=>h x (Q0 _ hx)
  by_cases hk:k=.free
  ·subst hk;obtain⟨c,hc⟩:=h (n,.free) QV rfl;have e2:Qb0 env ((n,.free)::r) acc=Qb0 env r ((n,c)::acc):=by
    show Qb0 env r (if Q3=.free then(n,(env.cells.lookup n).getD 0)::acc else acc)=_;rw[if_pos rfl,hc];rfl
   rw[e2];have ha':∀x c',((n,c)::acc).lookup x=some c'->env.cells.lookup x=some c':=λx c' q=>by
    rw[Q8] at q;cases hx:x == n with
    |true=>
     rw[hx] at q;have z:c=c':=Qy q;have y:x=n:=by simpa using hx
     rw[y,<- z];exact hc
    |false=>rw[hx] at q;exact ha x c' q
   obtain⟨i1,i2,i3⟩:=Qhx r ((n,c)::acc) hr ha';refine⟨i1,λx c' q=>?_,λx hx=>?_⟩
   ·refine i2 x c' ?_
    rw[Q8];cases hx:x == n with
    |true=>
     have y:x=n:=by simpa using hx
     have:=ha x c' q;rw[y,hc] at this;exact this
    |false=>exact q
   ·rcases Qq.mp hx with z | z
    ·cases z;exact⟨c,i2 n c (by rw[Q8,beq_self_eq_true])⟩
    ·exact i3 x z
  ·have e2:Qb0 env ((n,k)::r) acc=Qb0 env r acc:=by
    show Qb0 env r (if k=.free then(n,(env.cells.lookup n).getD 0)::acc else acc)=_;rw[if_neg hk]
   rw[e2];obtain⟨i1,i2,i3⟩:=Qhx r acc hr ha;refine⟨i1,i2,λx hx=>?_⟩;rcases Qq.mp hx with z | z
   ·cases z;exact absurd rfl hk
   ·exact i3 x z
theorem Qby{l:List (Str×Qaf)}{x:Str}{k:Qaf}(h:l.lookup x=some k):(x,k)∈l:=by
 induction l with
 |nil=>cases h
 |cons p r ih=>
  obtain⟨n,q⟩:=p;rw[Q8] at h;cases hx:x == n with
  |true=>
   rw[hx] at h;have y:x=n:=by simpa using hx
   have z:q=k:=Qy h;subst y z;exact QV
  |false=>rw[hx] at h;exact Q0 _ (ih h)
theorem Qaq{env:Env}:∀{names:List (Str×Qaf)}{x:Str}{k:Qaf},(names.map λ(n,k)=>if(k == Q3&&env.scope.kind == .function&&env.kindOf n == some .cell) then(n,ZQ) else(n,k)).lookup x=some k ->
  names.lookup x=some k∨(k=.cell/\names.lookup x=some .free)
 |[],x,k,h=>by cases h
 |(n,q)::r,x,k,h=>by
  have ih:=@Qaq env r x k;rw[JT] at h;have h':Qfu x ((if(q == Q3&&env.scope.kind == .function&&env.kindOf n == some .cell)=true then(n,ZQ) else(n,q))::_)=some k:=h;cases hx:x == n with
  |true=>
   by_cases hc:(q == Q3&&env.scope.kind == .function&&env.kindOf n == some .cell)=true
   ·rw[if_pos hc,Q8,hx] at h';have z:ZQ=k:=Qy h';have y:q=.free:=by simp at hc;exact hc.1.1
    refine .inr ⟨z.symm,?_⟩;rw[Q8,hx,y]
   ·rw[if_neg hc,Q8,hx] at h';refine .inl ?_
    rw[Q8,hx];exact h'
  |false=>
   have h2:Qfu x (r.map λ(n,k)=>if(k == Q3&&env.scope.kind == .function&&env.kindOf n == some .cell) then(n,ZQ) else(n,k))=some k:=by
    by_cases hc:(q == Q3&&env.scope.kind == .function&&env.kindOf n == some .cell)=true
    ·rw[if_pos hc,Q8,hx] at h';exact h'
    ·rw[if_neg hc,Q8,hx] at h';exact h'
   rw[Q8,hx];exact ih h2
theorem relabel_free{env:Env}:∀{names:List (Str×Qaf)}{x:Str},names.lookup x=some .free->(names.map λ(n,k)=>if(k == Q3&&env.scope.kind == .function&&env.kindOf n == some .cell) then(n,ZQ) else(n,k)).lookup x=some .cell ∨
   (names.map λ(n,k)=>if(k == Q3&&env.scope.kind == .function&&env.kindOf n == some .cell) then(n,ZQ) else(n,k)).lookup x=some .free
 |[],x,h=>by cases h
 |(n,q)::r,x,h=>by
  have ih:=@relabel_free env r x;rw[JT];show Qfu x ((if(q == Q3&&env.scope.kind == .function&&env.kindOf n == some .cell)=true then(n,ZQ) else(n,q))::_)=some .cell∨Qfu x ((if(q == Q3&&env.scope.kind == .function&&env.kindOf n == some .cell)=true then(n,ZQ) else(n,q))::_)=some .free;cases hx:x == n with
  |true=>
   rw[Q8,hx] at h;have z:q=Q3:=Qy h;subst z;by_cases hc:(Q3 == Q3&&env.scope.kind == .function&&env.kindOf n == some .cell)=true
   ·rw[if_pos hc,Q8,hx];exact .inl rfl
   ·rw[if_neg hc,Q8,hx];exact .inr rfl
  |false=>
   rw[Q8,hx] at h;by_cases hc:(q == Q3&&env.scope.kind == .function&&env.kindOf n == some .cell)=true
   ·rw[if_pos hc,Q8,hx];exact ih h
   ·rw[if_neg hc,Q8,hx];exact ih h
def Qhy(N:List Str)(sc:YW)(M:List Str)(scope:YW)(cap:List (Option Nat)):Bool:=
 cap.length == M.length&&(M.zip cap).all (λ(x,o)=>match o with
  |none=>scope.names.lookup x == some .local
  |some j=>N[j]? == some x&&(scope.names.lookup x == some .free&&(sc.names.lookup x == some .cell||sc.names.lookup x == some .free))) &&
 (scope.kind == .function&&scope.names.all λy=>y.2 != .cell&&((y.2 != .free||(sc.names.lookup y.1 == some .cell||sc.names.lookup y.1 == some .free))&&(y.2 != .local||scope.names.lookup y.1 == some .local)))
def QcP(cap:List (Option Nat))(σ:St):St:=cap.map λo=>match o with
 |none=>none
 |some j=>(σ[j]?).getD none
structure CapOk (N:List Str) (sc:YW) (M:List Str) (scope:YW) (cap:List (Option Nat)):Prop where
 len:cap.length=M.length
 own:∀(i j:Nat)(x:Str),M[i]? = some x->cap[i]? = some (some j)->N[j]? = some x/\scope.names.lookup x=some .free/\(sc.names.lookup x=some .cell∨sc.names.lookup x=some .free)
 kind:scope.kind=.function
 cell:∀y∈scope.names,y.2≠.cell
 free:∀y∈scope.names,y.2=.free->sc.names.lookup y.1=some .cell∨sc.names.lookup y.1=some .free
 loc:∀y∈scope.names,y.2=.local->scope.names.lookup y.1=some .local
theorem CapOk.of{N:List Str}{sc:YW}{M:List Str}{scope:YW}{cap:List (Option Nat)}(h:Qhy N sc M scope cap=true):CapOk N sc M scope cap:=by
 unfold Qhy at h;simp only[Jy,JL,beq_iff_eq] at h;obtain⟨⟨h1,h2⟩,h3,h4⟩:=h;refine⟨h1,λi j x e1 e2=>?_,h3,λy hy z=>?_,λy hy z=>?_,λy hy z=>?_⟩
 ·have hm:(x,some j)∈M.zip cap:=by
   have:(M.zip cap)[i]? = some (x,some j):=by rw[List.getElem?_zip_eq_some];exact⟨e1,e2⟩
   exact Ji this
  have:=h2 _ hm;simp only[Jy,beq_iff_eq,Bool.or_eq_true] at this;exact this
 ·have:=(h4 y hy).1;simp[z] at this
 ·have:=(h4 y hy).2.1
  simpa [z] using this
 ·have:=(h4 y hy).2.2
  simpa [z] using this
section
variable{X:Cx}{pins:List (Addr×Obj)}{σ:St}{H H3:Hp}{s3:Shared}{M:List Str}{scope:YW}{cap:List (Option Nat)}{fp:List Addr}{h4:JR}{t4:Nat}
theorem Cx.Ok.cells(ok:X.Ok){N:List Str}(c:CapOk N X.env.scope M scope cap):∀y∈scope.names,y.2=.free->∃d,X.env.cells.lookup y.1=some d:=λy hy z=>ok.has y.1 (c.free y hy z)
theorem Qgy(I:Inv X pins σ H3 s3)(c:CapOk X.N X.env.scope M scope cap)(hf:∀b∈fp,FpOk X pins H3 b)(hb:∀b∈fp,b<s3.heap.objs.size)
  (hn:h4.Ns s3.heap.objs.size λ_=>none)(hk:∀b o,s3.heap.get? b=some o->h4.get? b=some o) :
  Inv (blk X M scope (Qb0 X.env scope.names []) fp s3 H3 s3.heap.objs.size) [] (QcP cap σ) H3 { s3 with heap:=h4,toks:=t4 }:=by
 obtain⟨c1,c2,c3⟩:=Qhx scope.names [] (I.ok.cells c) (λx d q=>by cases q);refine⟨⟨I.ok.mod,c.kind,I.ok.glob,I.ok.blt,Qh _,λx y d e1 e2=>I.ok.inj x y d (c1 x d e1) (c1 y d e2),λx hx=>?_,(λx d z=>nomatch z),I.ok.hd,I.ok.frames,.inl rfl,λb hb'=>?_,I.bs,
  QJ I.ok.bsz I.sz,λb o e z=>?_,λb hb' z=>?_,I.stack,I.stkFree⟩,rfl,I.bare,Un.kept hk,⟨_,hn,λi x v e1 e2 e3=>?_⟩,λx d e=>?_,I.hok.fresh (Qh _),λx d e=>I.freeC x d (c1 x d e),λp hp=>(nomatch hp),I.hok.kept hk,?_⟩
 ·have hx':(relabel scope X.env).names.lookup x=some .cell∨(relabel scope X.env).names.lookup x=some .free:=hx;rcases hx' with q | q
  ·rcases Qaq q with z | ⟨_,z⟩
   ·exact absurd rfl (c.cell _ (Qby z))
   ·exact c3 x (Qby z)
  ·rcases Qaq q with z | ⟨z,_⟩
   ·exact c3 x (Qby z)
   ·cases z
 ·obtain⟨f0,f1,f2,f3,f4,f5⟩:=hf b hb';exact⟨QC (hb b hb'),λx d e=>f4 x d (c1 x d e)⟩
 ·obtain⟨f0,f1,f2,f3,f4,f5⟩:=hf b z;rcases f3 with q | q
  ·exact I.ok.noex b o e q
  ·exact absurd (QH (Qk e) (QJ I.ok.bsz q)) (ZF _)
 ·obtain⟨f0,f1,f2,f3,f4,f5⟩:=hf b hb';rcases Qq.mp (I.stkSub b z) with q | q
  ·exact f1 q
  ·exact f2 q
 ·have e2':(cap.map λo=>match o with | none=>none | some j=>(σ[j]?).getD none)[i]? = some (some v):=e2;rw[Qr] at e2';cases q:cap[i]? with
  |none=>rw[q] at e2';cases e2'
  |some o=>
   rw[q] at e2';cases o with
   |none=>cases e2'
   |some j=>
    have e4:(σ[j]?).getD none=some v:=Qy e2';have e5:σ[j]? = some (some v):=by
     cases r:σ[j]? with
     |none=>rw[r] at e4;cases e4
     |some o=>rw[r] at e4;exact congrArg some e4
    obtain⟨n1,n2,n3⟩:=c.own i j x e1 q;obtain⟨m,hm,hl⟩:=I.loc;obtain⟨u,ru,lk⟩:=hl j x v n1 e5 (n3.elim (λz=>.inr (.inl z)) λz=>.inr (.inr z));refine⟨u,ru,.inr ?_⟩;rcases lk with⟨k1,_⟩ | ⟨_,d,k2,k3⟩
    ·have k1':X.env.scope.names.lookup x=some .local:=k1;rcases n3 with z | z<;>(rw[z] at k1';cases k1')
    ·obtain⟨d',hd'⟩:=c3 x (Qby n2);have ed:d'=d:=by
      have:=c1 x d' hd';rw[k2] at this;exact(Qy this).symm
     subst ed;exact⟨(relabel_free n2:(relabel scope X.env).names.lookup x=some .cell∨(relabel scope X.env).names.lookup x=some .free),d',hd',k3.keeps hk⟩
 ·obtain⟨v,q⟩:=I.cell x d (c1 x d e);exact⟨v,q.keeps hk⟩
 ·show(cap.map _).length=M.length;rw[Qe];exact c.len
theorem QlS{σ':St}{s':Shared}{h':JR}(I:Inv X pins σ H3 s3)(hf:∀b∈fp,FpOk X pins H3 b)(J:Inv (blk X M scope (Qb0 X.env scope.names []) fp s3 H3 s3.heap.objs.size) [] σ' H s')(hs:QbY s3.heap.objs.size s'.heap h') :
  Inv X pins σ H { s' with heap:=h' }:=by
 have u:Un (frs X.stack) fp H3 H s3.heap s'.heap:=J.base;have ne:∀b o,s3.heap.get? b=some o->b≠s3.heap.objs.size:=λb o e=>QC (Qk e)
 have hC:H s3.heap.objs.size=none:=J.free;refine I.call' (ch:=fp) (s':={ s' with heap:=h' }) J.os ⟨λb o e n hb hx=>(hs.2 b (ne b o e)).trans (u.keep b o e n hb hx),λb o e n hb hx=>?_,u.free,λb o e hx=>?_,u.tups,u.frzs,u.tbls⟩ (λb o e=>?_) J.bare λb hb=>?_
 ·obtain⟨sl,q⟩:=u.slot b o e n hb hx;exact⟨sl,(hs.2 b (ne b o e)).trans q⟩
 ·obtain⟨o',q⟩:=u.there b o e hx;exact⟨o',(hs.2 b (ne b o e)).trans q⟩
 ·refine(J.hok b o e).stay (λc v hc q=>(hs.2 c ?_).trans q) (λ_ q=>q) λ_ _ q=>q
  rintro rfl;rcases hc with z | z
  ·rw[<- z,hC] at e;cases e
  ·rw[hC] at z;cases z
 ·obtain⟨f0,f1,f2,f3,f4,f5⟩:=hf b hb;exact⟨f3,f1,f4,f5⟩
end
def Wk:St->St->Prop
 |[],[]=>True
 |none::a,_::b=>Wk a b
 |some v::a,some u::b=>v=u/\Wk a b
 |_,_=>False
theorem Wk.len:∀{a b:St},Wk a b->a.length=b.length
 |[],[],_=>rfl
 |none::a,_::b,h=>congrArg (·+1) (Wk.len (a:=a) (b:=b) h)
 |some v::a,some u::b,h=>congrArg (·+1) (Wk.len (a:=a) (b:=b) h.2)
 |[],_::_,h=>h.elim
 |some _::_,[],h=>h.elim
 |none::_,[],h=>h.elim
 |some _::_,none::_,h=>h.elim
theorem Wk.get:∀{a b:St},Wk a b->∀(i:Nat) v,a[i]? = some (some v)->b[i]? = some (some v)
 |[],[],_,i,v,h=>by simp at h
 |none::a,x::b,h,0,v,e=>by simp at e
 |none::a,x::b,h,i+1,v,e=>by
  simp only[Yt] at e ⊢;exact Wk.get (a:=a) (b:=b) h i v e
 |some q::a,some u::b,h,0,v,e=>by
  simp only[QhJ] at e ⊢;rw[<- h.1];exact e
 |some q::a,some u::b,h,i+1,v,e=>by
  simp only[Yt] at e ⊢;exact Wk.get (a:=a) (b:=b) h.2 i v e
 |[],_::_,h,_,_,_=>h.elim
 |some _::_,[],h,_,_,_=>h.elim
 |none::_,[],h,_,_,_=>h.elim
 |some _::_,none::_,h,_,_,_=>h.elim
theorem Inv.wk{X:Cx}{pins:List (Addr×Obj)}{σ σ':St}{H:Hp}{s:Shared}(I:Inv X pins σ H s)(h:Wk σ' σ):Inv X pins σ' H s:=I.weak h.len h.get
def QeN(J:It)(body:V->Hp->(Hp->Prop)->Prop)(Qn:Hp->Prop)(H:Hp):Prop:=
 ∃W:Nat->Nat->Hp->Prop,(∃m,W 0 m H)/\∀i m H2,W i m H2->(J.stop i H2/\Qn H2)∨(J.go i H2/\∀x H3,J.yld i H2 x H3->body x H3 λH6=>∃m',m'<m/\W (i+1) m' H6)
abbrev Act:=(Shared->Prop)->Shared->Prop
def BodyOk(Y:Cx)(σ:St)(act:Act)(b:Hp->(Hp->Prop)->Prop):Prop:=
 ∀(pins:List (Addr×Obj))(s:Shared)(H:Hp)(k:Hp->Prop)(Q:Shared->Prop),Inv Y pins σ H s->b H k->(∀s' H',Inv Y pins σ H' s'->k H'->Q s')->act Q s
theorem QdE{Y:Cx}{σ:St}{tg:QR}{elt:QR}{gens:List QeH}{scope:YW}{cpos:Pos}{d:Nat}{it D:Addr}{fp:List Addr}{tn:Nat->JR->Prop}{J:It}{pins:List (Addr×Obj)}{s:Shared}{H:Hp}{body:V->Hp->(Hp->Prop)->Prop}{Qn:Hp->Prop}{R:Result->Shared->Prop}{act:Value->Act}
  (hc:Y.calm=true)(T:Turn Y.prog Y.w Y.K tg J fp it tn)(st:tn 0 s.heap)(hf:∀b∈fp,FpOk Y pins H b)
  (hturn:∀(Q:PySem.Fin->Shared->Prop)(E:Value->Shared->Prop)(s:Shared),wpAny (model Y.prog Y.w) Y.A (pyNext (.ref it)) (λr s1=>match r with
   |none=>Q (.done .next) s1
   |some v=>wpAny (model Y.prog Y.w) Y.A (letOwnedTupleGo tg (.ref it) v) (λ_ s2=>act v (λs3=>Q (.again (.compLoop (.ListComp elt gens scope cpos) d (.ref it) (.ref D) Y.env)) s3) s2) E s1) E s ->
   wpAny (model Y.prog Y.w) Y.A (compTurn (.ListComp elt gens scope cpos) d (.ref it) (.ref D) Y.env) Q E s)
  (hact:∀(x:V)(u:Value),RelV x u->BodyOk Y σ (act u) (body x))
  (I:Inv Y pins σ H s)(h:QeN J body Qn H)(hR:∀s' H',Inv Y pins σ H' s'->Qn H'->R (.ok .next) s') :
  codeAny (model Y.prog Y.w) Y.A (.compLoop (.ListComp elt gens scope cpos) d (.ref it) (.ref D) Y.env) R s:=by
 obtain⟨W,⟨m0,w0⟩,turn⟩:=h;have stat:∀{H':Hp},(∀b∈fp,H' b=none)->∀b∈fp,FpOk Y pins H' b:=λhn b hb=>⟨hn b hb,(hf b hb).2⟩
 refine codeAny_loop rfl (λn s'=>∃i H',Inv Y pins σ H' s'/\tn i s'.heap/\(∀b∈fp,H' b=none)/\W i n H') (λn s3 hI=>?_) m0 ⟨0,H,I,st,λb hb=>(hf b hb).1,w0⟩;show wpAny _ Y.A ((compTurn (.ListComp elt gens scope cpos) d (.ref it) (.ref D) Y.env).onRaise (λx=>do noteFrame x Y.env;theTreesLotGoes x)) _ _ s3;refine wpAny_noted (hturn _ _ _ ?_);obtain⟨i,H3,I3,st3,fr3,w3⟩:=hI;rcases turn i n H3 w3 with⟨stop,qn⟩ | ⟨go,step⟩
 ·refine thn (T.done Y rfl rfl rfl hc i pins s3 σ H3 _ I3 (stat fr3) st3 stop) λr s4 ⟨hr,I4⟩=>?_
  subst hr;exact hR s4 H3 I4 qn
 ·refine thn (T.item Y rfl rfl rfl hc i pins s3 σ H3 _ I3 (stat fr3) st3 go) λr s4 ⟨u,hr,h4⟩=>?_
  subst hr;refine thn h4 λ_ s5 ⟨x,H5,I5,r5,y5,st5,fr5⟩=>?_
  have I5':=I5.pinned (stat fr5) (T.obj _ _ st5);refine hact x u r5 _ s5 H5 _ _ I5' (step x H5 y5) λs7 H7 I7 ⟨m',hm,w7⟩=>?_
  refine⟨rfl,m',hm,i+1,H7,I7.unpinned,T.keep _ _ _ st5 λb hb o e=>(I7.pin (b,o) (Jk _ (Jk _ (Qbx hb e)))).1,λb hb=>?_,w7⟩;obtain⟨o,e,dd⟩:=T.obj _ _ st5 b hb;exact(I7.pin (b,o) (Jk _ (Jk _ (Qbx hb e)))).2.1
abbrev QjR (ifs:List QR) (env:Env):Sem Bool:=forIn ifs true λc r=>if r=true then do let ok <- isTrue c env (eval c env);pure (Zc ok) else pure (Zc r)
def PTs(Y:Cx)(ifs:List QR)(t:TT):Prop:=
 ∀(pins:List (Addr×Obj))(s:Shared)(σ:St)(H:Hp)(Q:Bool->Hp->Prop),Inv Y pins σ H s->t σ H Q->wpAny (model Y.prog Y.w) Y.A (QjR ifs Y.env) (TP Y pins σ Q) Y.xe s
def Qbg:TT:=λ_ H Q=>Q true H
theorem QcF{Y:Cx}:PTs Y [] Qbg:=λpins s σ H Q I h=>wpAny_tests_nil ⟨H,I,h⟩
theorem Qkm{Y:Cx}{c:QR}{t:TT}(h:PT Y c t):PTs Y [c] t:=λpins s σ H Q I q=>wpAny_tests_one (h pins s σ H Q I q)
def Qn8(Y:Cx)(tg:QR)(ifs:List QR)(inner:Act):Value->Act:=λu Q s=>
 wpAny (model Y.prog Y.w) Y.A (assign tg Y.env u) (λ_ s4=>wpAny (model Y.prog Y.w) Y.A (QjR ifs Y.env) (λok s5=>if ok=true then inner Q s5 else Q s5) (λ_ _=>False) s4) (λ_ _=>False) s
def bOf(σ:St)(g:TG)(tc:TT)(inner:St->Hp->(Hp->Prop)->Prop):V->Hp->(Hp->Prop)->Prop:=λx H k=>g x σ H λσ4 H4=>Wk σ σ4/\tc σ4 H4 λb H5=>
 if b=true then inner σ4 H5 k else k H5
theorem QhB{Y:Cx}{σ:St}{tg:QR}{ifs:List QR}{g:TG}{tc:TT}{inner:Act}{ri:St->Hp->(Hp->Prop)->Prop}(hx:Y.xe=λ_ _=>False)(hg:PG Y tg g)(ht:PTs Y ifs tc)(he:∀σ4,BodyOk Y σ4 inner (ri σ4))(x:V)(u:Value)(r:RelV x u) :
  BodyOk Y σ (Qn8 Y tg ifs inner u) (bOf σ g tc ri x):=by
 intro pins s H k Q I h hQ;have hx':∀(v:Value)(s':Shared),Y.xe v s'->False:=λv s' z=>by rw[hx] at z;exact z
 refine wpAny_mono (hg pins s σ H x u _ I r h) (λ_ s4 ⟨σ4,H4,I4,wk,q4⟩=>?_) hx';refine wpAny_mono (ht pins s4 σ4 H4 _ I4 q4) (λb s5 ⟨H5,I5,q5⟩=>?_) hx';cases b with
 |false=>
  rw[if_neg Qo] at q5;rw[if_neg Qo];exact hQ s5 H5 (I5.wk wk) q5
 |true=>
  rw[if_pos rfl] at q5;rw[if_pos rfl];exact he σ4 pins s5 H5 k Q I5 q5 λs' H' I' k'=>hQ s' H' (I'.wk wk) k'
def QlX(Y:Cx)(elt:QR)(D:Addr):Act:=λQ s=>wpAny (model Y.prog Y.w) Y.A (eval elt Y.env) (λv s6=>wpAny (model Y.prog Y.w) Y.A (call (.builtin "list.append") [.ref D,v]) (λ_ s7=>Q s7) (λ_ _=>False) s6) (λ_ _=>False) s
def Qpg(p:Addr)(te:TE):St->Hp->(Hp->Prop)->Prop:=λσ H k=>te σ H λv H6=>∃ys,H6 p=some (.lst ys)/\ys.length<sizeLine/\k (upd H6 p (.lst (ys++[v])))
theorem Qir{Y:Cx}{σ:St}{elt:QR}{te:TE}{D:Addr}(hx:Y.xe=λ_ _=>False)(he:PE Y elt te):BodyOk Y σ (QlX Y elt D) (Qpg D te σ):=by
 intro pins s H k Q I h hQ;have hx':∀(v:Value)(s':Shared),Y.xe v s'->False:=λv s' z=>by rw[hx] at z;exact z
 refine wpAny_mono (he pins s σ H _ I h) (λv s6 ⟨y,H6,I6,r6,ys,e,hz,q⟩=>?_) hx';exact wpAny_mono (Qdr (X:=Y) pins s6 σ H6 (.ref D) [y] (.ref D) [v] (λ_ H'=>k H') I6 rfl (.cons r6 .nil) ⟨D,ys,y,rfl,rfl,e,hz,q⟩) (λ_ s7 ⟨_,H7,I7,_,q7⟩=>hQ s7 H7 I7 q7) hx'
theorem Qmq{Y:Cx}{elt tg iter:QR}{ifs:List QR}{scope:YW}{cpos:Pos}{it D:Addr}(Q:PySem.Fin->Shared->Prop)(E:Value->Shared->Prop)(s:Shared)
  (h:wpAny (model Y.prog Y.w) Y.A (pyNext (.ref it)) (λr s1=>match r with
   |none=>Q (.done .next) s1
   |some v=>wpAny (model Y.prog Y.w) Y.A (letOwnedTupleGo tg (.ref it) v) (λ_ s2=>Qn8 Y tg ifs (QlX Y elt D) v (λs3=>Q (.again (.compLoop (.ListComp elt [⟨tg,iter,ifs,0⟩] scope cpos) 0 (.ref it) (.ref D) Y.env)) s3) s2) E s1) E s) :
  wpAny (model Y.prog Y.w) Y.A (compTurn (.ListComp elt [⟨tg,iter,ifs,0⟩] scope cpos) 0 (.ref it) (.ref D) Y.env) Q E s:=by
 rw[compTurn_list];refine wpAny_bind (wpAny_standAt (wpAny_bind (thn h λr s1 h1=>?_)));cases r with
 |none=>exact Qm h1
 |some v=>
  refine wpAny_bind (thn h1 λ_ s2 h2=>?_);refine wpAny_bind (wpAny_mono h2 (λ_ s4 h4=>wpAny_bind (wpAny_mono h4 (λok s5 h5=>?_) λ_ _ f=>f.elim)) λ_ _ f=>f.elim);cases ok with
  |false=>exact Qm h5
  |true=>exact wpAny_bind (wpAny_bind (wpAny_mono h5 (λx s6 h6=>wpAny_bind (wpAny_mono h6 (λ_ s7 h7=>Qm (Qm h7)) λ_ _ f=>f.elim)) λ_ _ f=>f.elim))
def tComp(cap:List (Option Nat))(wi:TI)(g:TG)(tc:TT)(te:TE):TE:=λσ H Q=>wi σ H λJ H1=>∀p,H1 p=none->QeN J (bOf (QcP cap σ) g tc (Qpg p te)) (Q (.ref p)) (upd H1 p (.lst []))
theorem FpOk.upd{X:Cx}{pins:List (Addr×Obj)}{H:Hp}{b a:Addr}{o:HO}(h:FpOk X pins H b)(hne:b≠a):FpOk X pins (upd H a o) b:=⟨by rw[JC hne];exact h.1,h.2⟩
theorem Qcb{X:Cx}{M:List Str}{cap:List (Option Nat)}{elt tg iter:QR}{ifs:List QR}{scope:YW}{pos:Pos}{wi:TI}{g:TG}{tc:TT}{te:TE}(hc:X.calm=true)(ok:Qhy X.N X.env.scope M scope cap=true)
  (hi:PI X tg iter wi)(hb:∀cl ex s3 H3 C,PG (blk X M scope cl ex s3 H3 C) tg g/\PTs (blk X M scope cl ex s3 H3 C) ifs tc/\PE (blk X M scope cl ex s3 H3 C) elt te)
  (hs:∀x,foldedSetIterable iter X.env x=pure x:=by intro _;rfl):PE X (.ListComp elt [⟨tg,iter,ifs,0⟩] scope pos) (tComp cap wi g tc te):=by
 intro pins s σ H Q I h;have c:=CapOk.of ok;rw[eval_ListComp];refine Ql2 (use:=none) rfl hs (QlE (I.ok.cells c)) c.kind c.loc ?_
 refine thn (hi pins s σ H _ I h) λv s1 h1=>thn h1 λitv s2 h2=>?_
 obtain⟨it,fp,tn,J,H2,e,I2,T,st2,f2,hW⟩:=h2;subst e;refine JH (QsL c.cell (by intro y hy;simp at hy) (λh₁ hns₁ hsb₁=>?_) c.kind);have I3:Inv X pins σ (upd H2 s2.heap.objs.size (.lst [])) { s2 with heap:=s2.heap.push { cls:=.type "list",data:=.seq ([]:List Value).toArray } }:=I2.lnew (t':=s2.toks) (ys:=[]) .nil (Js _);have lt2:∀b∈fp,b<s2.heap.objs.size:=λb hb=>by obtain⟨o,e,_⟩:=T.obj _ _ st2 b hb;exact Qk e
 have f3:∀b∈fp,FpOk X pins (upd H2 s2.heap.objs.size (.lst [])) b:=λb hb=>(f2 b hb).upd (QC (lt2 b hb))
 generalize hs3:({ s2 with heap:=s2.heap.push { cls:=.type "list",data:=.seq ([]:List Value).toArray } }:Shared)=s3 at I3;have e3:s3.heap=s2.heap.push { cls:=.type "list",data:=.seq ([]:List Value).toArray }:=by rw[<- hs3]
 have z3:s3.heap.objs.size=s2.heap.objs.size+1:=by rw[e3,Yg]
 have hk:∀b o,s3.heap.get? b=some o->h₁.get? b=some o:=λb o e=>hsb₁.extBut b o (by
  have:=Qk e;rw[e3] at this;exact QC this) (Qc _ (e3 ▸ e))
 have hn₁:h₁.Ns s3.heap.objs.size λ_=>none:=by rw[e3];exact hns₁
 have B:=Qgy (t4:=s3.toks+([]:List (Str×Value)).length) (fp:=fp) I3 c f3 (λb hb=>by rw[z3];exact Qpo (lt2 b hb)) hn₁ hk;have st4:tn 0 h₁:=T.keep _ _ _ st2 λb hb o e=>hk b o (by rw[e3];exact Qc _ e)
 have fp4:∀b∈fp,FpOk (blk X M scope (Qb0 X.env scope.names []) fp s3 (upd H2 s2.heap.objs.size (.lst [])) s3.heap.objs.size) [] (upd H2 s2.heap.objs.size (.lst [])) b:=λb hb=>by
  refine⟨(f3 b hb).1,(B.ok.exf b hb).1,B.ok.exfs b hb,.inl hb,(B.ok.exf b hb).2,λp hp=>(nomatch hp)⟩
 obtain⟨hg,ht,he⟩:=hb (Qb0 X.env scope.names []) fp s3 (upd H2 s2.heap.objs.size (.lst [])) s3.heap.objs.size;have loop:codeAny (model X.prog X.w) X.A (.compLoop (.ListComp elt [⟨tg,iter,ifs,0⟩] scope pos) 0 (.ref it) (.ref s2.heap.objs.size) (compEnvC scope (Qb0 X.env scope.names []) s3.heap.objs.size X.env))
   (compPost (model X.prog X.w) X.A X.xe none (EP X pins σ Q) (.ref s2.heap.objs.size) s3.heap.objs.size) { s3 with heap:=h₁,toks:=s3.toks+([]:List (Str×Value)).length }:=by
  refine QdE (Y:=blk X M scope (Qb0 X.env scope.names []) fp s3 (upd H2 s2.heap.objs.size (.lst [])) s3.heap.objs.size) (gens:=[⟨tg,iter,ifs,0⟩]) (d:=0) hc T st4 fp4
   (λQ E s h=>Qmq Q E s h) (λx u r=>QhB rfl hg ht (λσ4=>Qir rfl he) x u r) B (hW _ (I2.hok.fresh (Qh _))) λs' H' I' q=>?_
  obtain⟨m,hn,_⟩:=I'.loc;exact⟨m,hn,λh' hs'=>⟨.ref s2.heap.objs.size,H',QlS I3 f3 I' hs',rfl,q⟩⟩
 exact Qog loop (T.self _ 0 _ _ _ st4 loop)
section
variable{X:Cx}
theorem QdH:CallR X (.builtin "isinstance") (λxs H Q=>∃x t T b,xs=[x,.ty T]/\TyOf X.K H x t/\PySem.W.kitOne X.K t (.type T)=some b/\Q (.bl b) H):=by
 intro pins s σ H xs us Q I r h;obtain⟨x,t,T,b,rfl,ty,e,q⟩:=h;obtain⟨u,v,rfl,ru,rv⟩:=vals2 r;cases(show v=QbV T from rv);exact Qlb I ru ty e λtk=>⟨.bl b,H,I.tok tk,rfl,q⟩
theorem Qn2{bs:List Bool}:∀{us:List Value},Vals (bs.map V.bl) us->LSm.BoolsAre us bs:=by
 induction bs with
 |nil=>intro us r;cases r;exact .nil
 |cons b bs ih=>
  intro us r;cases r with
  |cons r t=>
   cases(show _=Qa2 b from r);exact .cons b (ih t)
theorem Qbz:CallR X (.builtin "all") (λxs H Q=>∃(p:Addr)(bs:List Bool),xs=[.ref p]/\SqL X.K H p (bs.map V.bl)/\X.calm=true/\Q (.bl (bs.all id)) H):=by
 intro pins s σ H xs us Q I r h;obtain⟨p,bs,rfl,hp,hc,q⟩:=h;obtain⟨u,rfl,ru⟩:=vals1 r;cases ru;obtain⟨its,rv,pl,hz⟩:=I.list hp;have hl:=pl.isList;have hb:=Qn2 rv;have hlt:p<s.heap.objs.size:=by obtain⟨_,e,_⟩:=hl;exact Qk e
 refine call_all_walk (QvP hl ?_);refine⟨s.heap.objs.size,[s.heap.objs.size,p],[s.heap.objs.size],its.toArray.size,_,_,λi=>(bs[i]?).getD true,rfl,Walks.list (A:=X.A.in1) (I.ok.hd hc) _ p (QC hlt) its.toArray,
  ⟨⟨_,Qu _ rfl,rfl,rfl⟩,hl.push _⟩,λi v s' Q' E' hP hQ=>?_,λh' tk hk=>?_⟩
 ·obtain⟨b,e,rfl⟩:=hb.get i v (by simpa using hP);simp only[e,Option.getD_some] at hQ;exact ZE hQ
 ·have e:((Qg its.toArray.size).all λi=>(bs[i]?).getD true)=bs.all id:=by
   rw[Qj,hb.length];exact LSm.range_all bs
  rw[e];exact⟨.bl _,H,I.kept (LSm.kept_iter hk),rfl,q⟩
def QxI:V->Option Int->Option Int->Hp->VK->Prop:=λx lo hi H Q=>∃a xs,x=.ref a/\H a=some (.tup xs)/\∀p H',Same H H'->H' p=some (.tup (Qin xs lo hi))->Q (.ref p) H'
theorem Jg{H:Hp}{p:Addr}{o:HO}(h:H p=none):Same H (upd H p o):=λb u e=>by rw[JC (J4 e h)];exact e
theorem QbR{prog:Qz}{w:Jf}{A:Jb}{E:Value->Shared->Prop}{s:Shared}{t sl:Addr}{items:Array Value}{vl vu:Value}{lo hi:Option Int}{Q:Value->Shared->Prop}(ht:IsTup s.heap t items)(hs:s.heap.IsSliceOf sl vl vu .none)(pl:QgL vl lo)(pu:QgL vu hi)
  (h1:HT.sIx items.size 0 lo=0)(h2:HT.sIx items.size items.size hi=items.size)(h:Q (.ref t) s):wpAny (model prog w) A (getItem (.ref t) (.ref sl)) Q E s:=by
 obtain⟨os,hos,hcs,hds⟩:=id hs;have hTs:s.TypeIs (.ref sl) "slice" := ⟨os,hos,hcs⟩;unfold getItem
 try with_reducible refine Yj ?_
 first | refine wpAny_bind (Qm ?_) | skip
 refine wpAny_bind (QvO ht.typeIs (by decide) ?_);refine wpAny_bind (Zi (name:=ZX "__getitem__") ht.typeIs JE
  (Zo JE ht.typeIs QsY ?_ (Qvt _ _)))
 show wpAny _ _ (QcR (.ref t) >>= _) _ _ s;refine wpAny_bind (tupleItemsOf_ ht ?_);refine wpAny_bind (Qpj hTs ?_);rw[if_pos (by decide)];refine wpAny_bind (HT.QaW hs pl pu ?_);show wpAny _ _ (if(((HT.sIx items.size 0 lo:Nat):Int) == 0&&(1:Int) == 1&&(HT.sIx items.size items.size hi - HT.sIx items.size 0 lo) == items.size)=true then _ else _) _ _ s;rw[if_pos (by rw[h1,h2];simp)];refine wpAny_bind (m:=Qwe _) (wpAny_bind (Qpj ht.typeIs (Qm ?_)));rw[if_pos (by decide)];exact wpAny_bind (wpAny_rule (Qm ⟨_,rfl,Qm h⟩))
theorem Qtt:SlR X QxI:=by
 intro pins s σ H x v vl vu lo hi sl Q I rx hs pl pu h;obtain⟨a,xs,rfl,hx,q⟩:=h;by_cases hw:HT.sIx xs.length 0 lo=0/\HT.sIx xs.length xs.length hi=xs.length
 ·cases rx;obtain⟨its,r,ht,hz⟩:=I.tuple (SqT.of hx);have hlen:its.toArray.size=xs.length:=by rw[Qj];exact r.length.symm
  refine⟨"tuple",_,JE.lookup,ht.typeIs,?_⟩;refine QbR ht hs pl pu (by rw[hlen];exact hw.1) (by rw[hlen];exact hw.2) ?_
  refine⟨.ref a,H,I,rfl,q a H (Same.refl H) ?_⟩;have e:Qin xs lo hi=xs:=by
   unfold Qin;rw[hw.1,hw.2];simp
  rw[e];exact hx
 ·exact Qts pins s σ H (.ref a) v vl vu lo hi sl Q I rx hs pl pu ⟨a,xs,rfl,SqT.of hx,hw,λp hp=>q p _ (Jg hp) Jh⟩
def QtK:R2:=λx y H Q=>∃a b xs ys,x=.ref a/\y=.ref b/\H a=some (.tup xs)/\H b=some (.tup ys)/\xs.length+ys.length<=sizeLine/\∀p H',Same H H'->H' p=some (.tup (xs++ys))->Q (.ref p) H'
theorem QrN:OpR X (binaryOp .Add) QtK:=by
 intro pins s σ H x y v u Q I rx ry h;obtain⟨a,b,xs,ys,rfl,rfl,ha,hb,hz,q⟩:=h;by_cases hx:xs=[]
 ·subst hx;cases rx;cases ry;obtain⟨its,r1,p1,_⟩:=I.tuple (SqT.of ha);obtain⟨its2,r2,p2,_⟩:=I.tuple (SqT.of hb);cases r1;obtain⟨⟨cls,dd,data,sl⟩,ho,hc,n,hd⟩:=id p1;obtain⟨⟨cls2,dd2,data2,sl2⟩,ho2,hc2,n2,hd2⟩:=id p2;simp only at hc hd hc2 hd2;subst hc hd hc2 hd2;exact Qpk ⟨_,ho,rfl⟩ ⟨_,ho2,rfl⟩ QgP Qma PySem.F.slot_tuple_add PySem.F.entry_tuple_add (PySem.F.args_tuple_add_2 _ _)
   (tuple_addW0 a b #[] its2.toArray n n2 dd dd2 sl sl2 rfl) ⟨ho,ho2,⟨.ref b,H,I,rfl,q b H (Same.refl H) hb⟩⟩
 ·exact QrM pins s σ H _ _ v u Q I rx ry ⟨a,b,xs,ys,rfl,rfl,SqT.of ha,SqT.of hb,hx,hz,λe=>q a H (Same.refl H) (by rw[e,ZV];exact ha),λ_ p hp=>q p _ (Jg hp) Jh⟩
end
end L2
namespace Rz
open Sem (wp)
section
variable{prog:Qz}{w:Jf}{A:Jb}{E:Value->Shared->Prop}{s:Shared}
theorem Qc7{it t:Addr}{i:Nat}{items:Array Value}{x:Value}{Q:Value->Shared->Prop}(hit:s.heap.IsTupleIter it t i)(ht:s.heap.IsTuple t items)(hx:items[i]? = some x)
  (hQ:∀h',h'.IsTupleIter it t (i+1)->QbY it s.heap h'->Q x { s with heap:=h' }):wpAny (model prog w) A (Jr (.ref it)) Q E s:=by
 obtain⟨o,ho,hc,hd⟩:=id hit;obtain⟨ol,hol,_,nl,hdl⟩:=ht;unfold Jr;refine wpAny_bind (Zi (name:=ZX "__next__") hit.typeIs Yh
  (Zo Yh hit.typeIs QgV ?_ (QgM _)))
 show wpAny _ _ (field (.ref it) 0 >>= _) _ _ s;refine wpAny_bind (JJ ho hd (x:=.ref t) rfl ?_);show wpAny _ _ (if(JP t == Jz)=true then _ else _) _ _ s;rw[if_neg (show ¬((JP t == Jz)=true) from Qo)];show wpAny _ _ (field (.ref it) 1 >>= _) _ _ s;refine wpAny_bind (JJ ho hd (x:=.int i 0) rfl ?_);show wpAny _ _ (seqItems? (.ref t) >>= _) _ _ s;refine wpAny_bind (ZU hol hdl ?_);simp only[QD,hx];refine wpAny_bind (wpAny_setField ho hd (by simp) (Qm ⟨x,rfl,Qm (hQ _ ?_ (Qfy ..))⟩));exact⟨_,Qjs _ ho (Obj.isFreed_of_fields (Qok hd _)),(Obj.cls_mapFields ..).trans hc,by
  rw[Qok hd];simp[rawInt]⟩
theorem Qhc{it t:Addr}{i:Nat}{items:Array Value}{Q:Value->Shared->Prop}(hh:A.handled=none)(hit:s.heap.IsTupleIter it t i)(ht:s.heap.IsTuple t items)(hx:items[i]? = none)
  (hE:∀h' e,Heap.ExtBut it s.heap h'->(∃o,h'.get? e=some o/\o.cls=.type "StopIteration")->E (.ref e) { s with heap:=h' }):wpAny (model prog w) A (Jr (.ref it)) Q E s:=by
 obtain⟨o,ho,hc,hd⟩:=id hit;obtain⟨ol,hol,_,nl,hdl⟩:=ht;unfold Jr;refine wpAny_bind (Zi (name:=ZX "__next__") hit.typeIs Yh
  (Zo Yh hit.typeIs QgV ?_ (QgM _)))
 show wpAny _ _ (field (.ref it) 0 >>= _) _ _ s;refine wpAny_bind (JJ ho hd (x:=.ref t) rfl ?_);show wpAny _ _ (if(JP t == Jz)=true then _ else _) _ _ s;rw[if_neg (show ¬((JP t == Jz)=true) from Qo)];show wpAny _ _ (field (.ref it) 1 >>= _) _ _ s;refine wpAny_bind (JJ ho hd (x:=.int i 0) rfl ?_);show wpAny _ _ (seqItems? (.ref t) >>= _) _ _ s;refine wpAny_bind (ZU hol hdl ?_);simp only[QD,hx];refine wpAny_bind (wpAny_rule (wpAny_bind (wpAny_setField ho hd (by simp) ?_)));show wpAny _ _ (newExc (.type "StopIteration") [] >>= _) _ _ _;refine wpAny_bind ?_
 simp only[newExc,newTuple];refine wpAny_bind (JH ?_ (by size_fits));refine wpAny_bind (m:=firstArgMember _ _) (Yd (a:=Jz) (by first | rfl | (simp only[firstArgMember];rfl)) ?_);refine JH ?_ (by size_fits)
 simp only[raiseNew];refine wpAny_bind (wpAny_handled ?_)
 first | rw[show A.in1.handled=none from hh] | rw[hh]
 refine wpAny_bind (Qm (wpAny_throw ?_));exact hE _ _ (((Qfy ..).extBut.push _).push _) ⟨_,Qu _ rfl,rfl⟩
structure Apart (z TI TO i1 i2 t1 t2:Addr):Prop where
 a1:TI≠z
 a2:TO≠z
 a3:i1≠z
 a4:i2≠z
 a5:TI≠TO
 a6:TI≠i1
 a7:TI≠i2
 a8:TO≠i1
 a9:TO≠i2
 b1:i1≠i2
 b2:t1≠z/\t1≠TO/\t1≠i1/\t1≠i2
 b3:t2≠z/\t2≠TO/\t2≠i1/\t2≠i2
structure QlY (h:JR) (z TI TO i1 i2 t1 t2:Addr) (f:Value) (k:Nat):Prop where
 zp:Qpv h z TI TO f
 ti:IsPair h TI (.ref i1) (.ref i2)
 to:∃a b,IsPair h TO a b
 i1:h.IsTupleIter i1 t1 k
 i2:h.IsTupleIter i2 t2 k
theorem QkZ{z TI TO i1 i2 t1 t2:Addr}{k:Nat}{xs ys:Array Value}{x y:Value}{Q:Option Value->Shared->Prop}(D:Apart z TI TO i1 i2 t1 t2)(Z:QlY s.heap z TI TO i1 i2 t1 t2 .none k)
  (hl1:s.heap.IsTuple t1 xs)(hl2:s.heap.IsTuple t2 ys)(hx:xs[k]? = some x)(hy:ys[k]? = some y)
  (hQ:∀h',QlY h' z TI TO i1 i2 t1 t2 (rawInt s.heap.objs.size) (k+1)->IsPair h' s.heap.objs.size x y->(∀c o,c≠z->c≠TO->c≠i1->c≠i2->s.heap.get? c=some o->h'.get? c=some o)->Q (some (.ref s.heap.objs.size)) { s with heap:=h' }) :
  wpAny (model prog w) A (pyNext (.ref z)) Q E s:=by
 obtain⟨hz,hTI,⟨a,b,hTO⟩,h1,h2⟩:=Z;have hT:s.TypeIs (.ref z) "zip" := ⟨_,hz,rfl⟩;unfold pyNext;refine wpAny_bind (wpAny_attempt (Zi (name:=ZX "__next__") hT Qcs (Zo Qcs hT QvC ?_ (Qs8 _))));show wpAny _ _ (field (.ref z) 2 >>= _) _ _ _;refine wpAny_bind (JJ hz rfl (x:=.bool false) rfl ?_);show wpAny _ _ (field (.ref z) 3 >>= _) _ _ _;refine wpAny_bind (JJ hz rfl (x:=.ref TI) rfl (wpAny_bind (ZU hTI rfl ?_)));show wpAny _ _ (J1 (.ref z) >>= _) _ _ _;refine wpAny_bind ?_
 unfold J1;refine wpAny_bind (JJ hz rfl (x:=.none) rfl (Qm ?_));simp only[if_true];refine wpAny_bind (wpAny_rule (wpAny_bind (JJ hz rfl (x:=.ref TO) rfl (wpAny_bind (Z0 hz (by simp) λg1 z1 s1=>?_)))))
 replace z1:Qpv g1 z TI TO .ellipsis:=z1
 refine wpAny_bind ?_
 simp only[Qpp,QsP,Qfx,Qs5];refine wpAny_bind (wpAny_bind (Qez ?_));show wpAny _ _ (Jr (.ref i1) >>= _) _ _ _;refine wpAny_bind (Qc7 (h1.extBut s1.extBut D.a3) (hl1.extBut s1.extBut D.b2.1) hx λg2 p2 s2=>Qm ?_);have o2:IsPair g2 TO a b:=s2.extBut _ _ D.a8 (s1.extBut _ _ D.a2 hTO);refine wpAny_bind (ZU o2 rfl (wpAny_bind (Qdb o2 λg3 o3 s3=>wpAny_bind (QsW (Qm ?_)))))
 replace o3:IsPair g3 TO x b:=o3
 refine wpAny_bind (wpAny_bind (Qez ?_));show wpAny _ _ (Jr (.ref i2) >>= _) _ _ _;refine wpAny_bind (Qc7 (((h2.extBut s1.extBut D.a4).extBut s2.extBut D.b1.symm).extBut s3.extBut D.a9.symm)
  (((hl2.extBut s1.extBut D.b3.1).extBut s2.extBut D.b3.2.2.1).extBut s3.extBut D.b3.2.1) hy λg4 p4 s4=>Qm ?_)
 have o4:IsPair g4 TO x b:=s4.extBut _ _ D.a9 o3;refine wpAny_bind (ZU o4 rfl (wpAny_bind (Qdb o4 λg5 o5 s5=>wpAny_bind (QsW (Qm (Qm ?_))))))
 replace o5:IsPair g5 TO x y:=o5
 refine wpAny_bind (ZU o5 rfl (wpAny_bind (wpAny_newTuple ?_)));have sz:g5.objs.size=s.heap.objs.size:=by rw[s5.1,s4.1,s3.1,s2.1,s1.1]
 have kp:∀c o,c≠z->c≠TO->c≠i1->c≠i2->s.heap.get? c=some o->g5.get? c=some o:=λc o c1 c2 c3 c4 e=>
  s5.extBut _ _ c2 (s4.extBut _ _ c4 (s3.extBut _ _ c2 (s2.extBut _ _ c3 (s1.extBut _ _ c1 e))))
 have z5:Qpv g5 z TI TO .ellipsis:=s5.extBut _ _ D.a2.symm (s4.extBut _ _ D.a4.symm (s3.extBut _ _ D.a2.symm (s2.extBut _ _ D.a3.symm z1)));have q1:g5.IsTupleIter i1 t1 (k+1):=((p2.extBut s3.extBut D.a8.symm).extBut s4.extBut D.b1).extBut s5.extBut D.a8.symm;have q2:g5.IsTupleIter i2 t2 (k+1):=p4.extBut s5.extBut D.a9.symm;show wpAny _ _ (Qay (.ref z) (.ref g5.objs.size) >>= _) _ _ _;refine wpAny_bind ?_
 unfold Qay;have z6:Qpv (g5.push { cls:=.type "tuple",data:=.seq #[x,y] }) z TI TO .ellipsis:=Qc _ z5;refine wpAny_bind (Z0 z6 (by simp) λg7 z7 s7=>?_)
 replace z7:Qpv g7 z TI TO (rawInt g5.objs.size):=z7
 refine Z0 z7 (by simp) λg8 z8 s8=>?_
 replace z8:Qpv g8 z TI TO (rawInt g5.objs.size):=z8
 have up:∀c o,c≠z->g5.get? c=some o->g8.get? c=some o:=λc o c1 e=>s8.extBut _ _ c1 (s7.extBut _ _ c1 (Qc _ e))
 have ne:g5.objs.size≠z:=Qb3 (Qk z5);have t8:IsPair g8 g5.objs.size x y:=s8.extBut _ _ ne (s7.extBut _ _ ne (Qu _ rfl));rw[sz] at z8 t8;refine Qm ⟨_,rfl,Qm ?_⟩;show Q (some (.ref g5.objs.size)) _;rw[sz];exact hQ g8 ⟨z8,up _ _ D.a1 (kp _ _ D.a1 D.a5 D.a6 D.a7 hTI),⟨x,y,up _ _ D.a2 o5⟩,q1.at λo e=>up _ o D.a3 e,q2.at λo e=>up _ o D.a4 e⟩ t8 λc o c1 c2 c3 c4 e=>up c o c1 (kp c o c1 c2 c3 c4 e)
theorem Qnv{z TI TO i1 i2 t1 t2:Addr}{k:Nat}{xs ys:Array Value}{Q:Option Value->Shared->Prop}(hh:A.handled=none)(D:Apart z TI TO i1 i2 t1 t2)(Z:QlY s.heap z TI TO i1 i2 t1 t2 .none k)
  (hl1:s.heap.IsTuple t1 xs)(hl2:s.heap.IsTuple t2 ys)(hend:xs[k]? = none∨ys[k]? = none)
  (hQ:∀h',(∀c o,c≠z->c≠TO->c≠i1->c≠i2->s.heap.get? c=some o->h'.get? c=some o)->Q none { s with heap:=h' }):wpAny (model prog w) A (pyNext (.ref z)) Q E s:=by
 obtain⟨hz,hTI,⟨a,b,hTO⟩,h1,h2⟩:=Z;have hT:s.TypeIs (.ref z) "zip" := ⟨_,hz,rfl⟩;have fin:∀(h':JR)(e:Addr),(∀c o,c≠z->c≠TO->c≠i1->c≠i2->s.heap.get? c=some o->h'.get? c=some o)->(∃o,h'.get? e=some o/\o.cls=.type "StopIteration") ->
   wpAny (model prog w) A (isInstance (.ref e) (.type "StopIteration") >>= λx=>if x=true then pure none else throw (.ref e)) Q E { s with heap:=h' }:=λh' e hk he=>by
  obtain⟨o,ho,hc⟩:=he;refine wpAny_bind (wpAny_isInstance (T := "StopIteration") (b:=true) ⟨o,ho,hc⟩ isSubtype_stop ?_);exact Qm (hQ _ hk)
 unfold pyNext;refine wpAny_bind (wpAny_attempt (Zi (name:=ZX "__next__") hT Qcs (Zo Qcs hT QvC ?_ (Qs8 _))));show wpAny _ _ (field (.ref z) 2 >>= _) _ _ _;refine wpAny_bind (JJ hz rfl (x:=.bool false) rfl ?_);show wpAny _ _ (field (.ref z) 3 >>= _) _ _ _;refine wpAny_bind (JJ hz rfl (x:=.ref TI) rfl (wpAny_bind (ZU hTI rfl ?_)));show wpAny _ _ (J1 (.ref z) >>= _) _ _ _;refine wpAny_bind ?_
 unfold J1;refine wpAny_bind (JJ hz rfl (x:=.none) rfl (Qm ?_));simp only[if_true];refine wpAny_bind (wpAny_rule (wpAny_bind (JJ hz rfl (x:=.ref TO) rfl (wpAny_bind (Z0 hz (by simp) λg1 z1 s1=>?_)))))
 replace z1:Qpv g1 z TI TO .ellipsis:=z1
 refine wpAny_bind ?_
 simp only[Qpp,QsP,Qfx,Qs5];refine wpAny_bind (wpAny_bind (Qez ?_));show wpAny _ _ (Jr (.ref i1) >>= _) _ _ _;cases hx:xs[k]? with
 |none=>
  refine wpAny_bind (Qhc hh (h1.extBut s1.extBut D.a3) (hl1.extBut s1.extBut D.b2.1) hx λg2 e s2 he=>?_);obtain⟨oe,hoe,hce⟩:=he;have z2:Qpv g2 z TI TO .ellipsis:=s2 _ _ D.a3.symm z1;have hez:e≠z:=λq=>by subst q;rw[z2] at hoe;cases hoe;simp at hce
  refine Z0 z2 (by simp) λg3 _ s3=>?_
  exact fin g3 e (λc o c1 _ c3 _ q=>s3.extBut _ _ c1 (s2 _ _ c3 (s1.extBut _ _ c1 q))) ⟨oe,s3.extBut _ _ hez hoe,hce⟩
 |some x=>
  have hy:ys[k]? = none:=by
   rcases hend with q | q
   ·rw[hx] at q;cases q
   ·exact q
  refine wpAny_bind (Qc7 (h1.extBut s1.extBut D.a3) (hl1.extBut s1.extBut D.b2.1) hx λg2 p2 s2=>Qm ?_);have o2:IsPair g2 TO a b:=s2.extBut _ _ D.a8 (s1.extBut _ _ D.a2 hTO);refine wpAny_bind (ZU o2 rfl (wpAny_bind (Qdb o2 λg3 o3 s3=>wpAny_bind (QsW (Qm ?_)))));refine wpAny_bind (wpAny_bind (Qez ?_));show wpAny _ _ (Jr (.ref i2) >>= _) _ _ _;refine wpAny_bind (Qhc hh (((h2.extBut s1.extBut D.a4).extBut s2.extBut D.b1.symm).extBut s3.extBut D.a9.symm)
   (((hl2.extBut s1.extBut D.b3.1).extBut s2.extBut D.b3.2.2.1).extBut s3.extBut D.b3.2.1) hy λg4 e s4 he=>?_)
  obtain⟨oe,hoe,hce⟩:=he;have z4:Qpv g4 z TI TO .ellipsis:=s4 _ _ D.a4.symm (s3.extBut _ _ D.a2.symm (s2.extBut _ _ D.a3.symm z1));have hez:e≠z:=λq=>by subst q;rw[z4] at hoe;cases hoe;simp at hce
  refine Z0 z4 (by simp) λg5 _ s5=>?_
  exact fin g5 e (λc o c1 c2 c3 c4 q=>s5.extBut _ _ c1 (s4 _ _ c4 (s3.extBut _ _ c2 (s2.extBut _ _ c3 (s1.extBut _ _ c1 q))))) ⟨oe,s5.extBut _ _ hez hoe,hce⟩
end
abbrev zh1 (h:JR) (t1:Addr):JR:=h.push { cls:=.type "tuple_iterator",data:=.fields #[.ref t1,.int 0 0] }
abbrev zh2 (h:JR) (t1 t2:Addr):JR:=(zh1 h t1).push { cls:=.type "tuple_iterator",data:=.fields #[.ref t2,.int 0 0] }
abbrev zh3 (h:JR) (t1 t2:Addr):JR:=(zh2 h t1 t2).push { cls:=.type "tuple",data:=.seq #[.ref h.objs.size,.ref (zh1 h t1).objs.size] }
abbrev zh4 (h:JR) (t1 t2:Addr):JR:=(zh3 h t1 t2).push { cls:=.type "tuple",data:=.seq #[.none,.none] }
abbrev zh5 (h:JR) (t1 t2:Addr):JR:=(zh4 h t1 t2).push { cls:=.type "zip",data:=.fields #[.none,.bool false,.bool false,.ref (zh2 h t1 t2).objs.size,.ref (zh3 h t1 t2).objs.size] }
theorem Qyx(t1 t2:Addr)(xs ys:Array Value) :
  Meets (QcY.«zip.__new__» ⟨[.type "zip",.ref t1,.ref t2],[]⟩) (λ_ R s=>s.heap.IsTuple t1 xs/\s.heap.IsTuple t2 ys/\R (.ok (.ret (.ref (zh4 s.heap t1 t2).objs.size))) { s with heap:=zh5 s.heap t1 t2 }):=
 .of_wp λprog w A R s h=>by
  obtain⟨hp,g,d,tk,os⟩:=s;obtain⟨hl1,hl2,h⟩:=h;have hsub:=sub_zip;have k1:Qjt (Qjo ⟨hp,g,d,tk,os⟩) t1 xs:=hl1;have k2:Qjt (Qjo ⟨hp.push { cls:=.type "tuple_iterator",data:=.fields #[.ref t1,.int 0 0] },g,d,tk,os⟩) t2 ys:=hl2.at λo e=>Qc _ e
  wp_walk using Z1 k1,Z1 k2
  exact⟨_,rfl,h⟩
section
variable{prog:Qz}{w:Jf}{A:Jb}{E:Value->Shared->Prop}{s:Shared}
theorem Qn1{t1 t2:Addr}{xs ys:Array Value}{Q:Value->Shared->Prop}(hl1:s.heap.IsTuple t1 xs)(hl2:s.heap.IsTuple t2 ys)
  (h:∀h',QlY h' (s.heap.objs.size+4) (s.heap.objs.size+2) (s.heap.objs.size+3) s.heap.objs.size (s.heap.objs.size+1) t1 t2 .none 0->(∀c o,s.heap.get? c=some o->h'.get? c=some o)->Q (.ref (s.heap.objs.size+4)) { s with heap:=h' }) :
  wpAny (model prog w) A (call (.type "zip") [.ref t1,.ref t2]) Q E s:=by
 refine callType_new F.called_zip (by decide) (F.typeCall_zip_2 _ _) (F.newCall_zip_2 _ _) (λobj=>F.args_object_init_3 obj _ _) F.entry_zip_new (Qyx t1 t2 xs ys) ⟨hl1,hl2,?_⟩;have z1:(zh1 s.heap t1).objs.size=s.heap.objs.size+1:=Yg ..;have z2:(zh2 s.heap t1 t2).objs.size=s.heap.objs.size+2:=by rw[Yg,z1]
 have z3:(zh3 s.heap t1 t2).objs.size=s.heap.objs.size+3:=by rw[Yg,z2]
 have z4:(zh4 s.heap t1 t2).objs.size=s.heap.objs.size+4:=by rw[Yg,z3]
 have g5:(zh5 s.heap t1 t2).get? (zh4 s.heap t1 t2).objs.size=some _:=Qu _ rfl;have g4:(zh5 s.heap t1 t2).get? (zh3 s.heap t1 t2).objs.size=some _:=Qc _ (Qu _ rfl);have g3:(zh5 s.heap t1 t2).get? (zh2 s.heap t1 t2).objs.size=some _:=Qc _ (Qc _ (Qu _ rfl));have g2:(zh5 s.heap t1 t2).get? (zh1 s.heap t1).objs.size=some _:=Qc _ (Qc _ (Qc _ (Qu _ rfl)));have g1:(zh5 s.heap t1 t2).get? s.heap.objs.size=some _:=Qc _ (Qc _ (Qc _ (Qc _ (Qu _ rfl))));show _/\_;rw[z2,z3,z4] at g5;rw[z1,z2] at g3;rw[z3] at g4;rw[z1] at g2;rw[z4];exact⟨⟨_,g5,rfl⟩,h _ ⟨g5,g3,⟨_,_,g4⟩,⟨_,g1,rfl,rfl⟩,⟨_,g2,rfl,rfl⟩⟩ λc o x=>Qc _ (Qc _ (Qc _ (Qc _ (Qc _ x))))⟩
end
end Rz
namespace L2
section
variable{X:Cx}{pins:List (Addr×Obj)}{σ:St}{H:Hp}{s:Shared}{h':JR}
theorem Inv.turnedNew{t':Nat}{ch:List Addr}{a:Addr}{o:HO}(I:Inv X pins σ H s)(hch:∀b∈ch,FpOk X pins H b)(k:∀b u,b∉ch->s.heap.get? b=some u->h'.get? b=some u)(hp:s.heap.objs.size<=a)
  (new:ObjOk X.prog X.w (upd H a o) h' a o):Inv X pins σ (upd H a o) { s with heap:=h',toks:=t' }:=by
 have hn:H a=none:=I.hok.fresh hp;have nch:∀b u,H b=some u->b∉ch:=λb u e z=>by rw[(hch b z).1] at e;cases e
 refine I.step (g':=s.gens) (d':=s.drawn) (ch:=ch) (λb hb=>?_) (λb u _ _ hc e _=>k b u hc e) (λb u _ _ hc e _=>⟨u.slots,k b u hc e⟩) (λb u hc e n=>?_) (λb u hc e=>⟨u,k b u hc e⟩)
  (λb xs e=>by rw[JC (J4 e hn)];exact e) (λb u v e=>by rw[JC (J4 e hn)];exact e) (λb ps e=>⟨#[],by rw[JC (J4 e hn),e];simp⟩) (λm hm=>?_) (λb u e=>?_) I.bare
 ·obtain⟨f0,f1,f2,f3,f4,f5⟩:=hch b hb;exact⟨f3,f1,f4,f5⟩
 ·rw[JC (QC (QH (Qk e) hp))];exact n
 ·obtain⟨u,es,ep,ho,r⟩:=hm;exact⟨u,es,ep,k _ u (λz=>(hch _ z).2.1 rfl) ho,r⟩
 ·by_cases hb:b=a
  ·subst hb;rw[Jh] at e;cases e;exact new
  ·rw[JC hb] at e;refine(I.hok b u e).stay (λc v hc q=>k c v ?_ q) (λc q=>by rw[JC (J4 q hn)];exact q) λc xs q=>by rw[JC (J4 q hn)];exact q
   rcases hc with z | z
   ·rw[z];exact nch b u e
   ·exact nch c _ z
theorem Inv.turnedAll{t':Nat}{ch:List Addr}(I:Inv X pins σ H s)(hch:∀b∈ch,FpOk X pins H b)(k:∀b u,b∉ch->s.heap.get? b=some u->h'.get? b=some u):Inv X pins σ H { s with heap:=h',toks:=t' }:=by
 have nch:∀b u,H b=some u->b∉ch:=λb u e z=>by rw[(hch b z).1] at e;cases e
 refine I.step (g':=s.gens) (d':=s.drawn) (ch:=ch) (λb hb=>?_) (λb u _ _ hc e _=>k b u hc e) (λb u _ _ hc e _=>⟨u.slots,k b u hc e⟩) (λb u hc e n=>n) (λb u hc e=>⟨u,k b u hc e⟩)
  (λb xs e=>e) (λb u v e=>e) (λb ps e=>⟨#[],by rw[e];simp⟩) (λm hm=>?_) (λb u e=>?_) I.bare
 ·obtain⟨f0,f1,f2,f3,f4,f5⟩:=hch b hb;exact⟨f3,f1,f4,f5⟩
 ·obtain⟨u,es,ep,ho,r⟩:=hm;exact⟨u,es,ep,k _ u (λz=>(hch _ z).2.1 rfl) ho,r⟩
 ·refine(I.hok b u e).stay (λc v hc q=>k c v ?_ q) (λc q=>q) λc xs q=>q
  rcases hc with z | z
  ·rw[z];exact nch b u e
  ·exact nch c _ z
end
def Itz(t1 t2:Addr):It:=
 ⟨λi H=>∃xs ys x y,H t1=some (.tup xs)/\H t2=some (.tup ys)/\xs[i]? = some x/\ys[i]? = some y,
  λi H v H'=>∃p x y,H p=none/\(∀xs,H t1=some (.tup xs)->xs[i]? = some x)/\(∀ys,H t2=some (.tup ys)->ys[i]? = some y)/\v=.ref p/\H'=upd H p (.tup [x,y]),
  λi H=>∃xs ys,H t1=some (.tup xs)/\H t2=some (.tup ys)/\(xs.length<=i∨ys.length<=i)⟩
theorem Qmo{P:Qz}{w:Jf}{K:PySem.W.Frag}{elts:List QR}{x1}{tpos:Pos}{z TI TO i1 i2 t1 t2:Addr}(D:Rz.Apart z TI TO i1 i2 t1 t2) :
  Turn P w K (.Tuple elts x1 tpos) (Itz t1 t2) [z,TI,TO,i1,i2] z (λi h=>Rz.QlY h z TI TO i1 i2 t1 t2 .none i) where
 mem:=by simp
 obj:=λi h st b hb=>by
  obtain⟨a1,a2,⟨_,_,a3⟩,⟨o4,a4,_,d4⟩,⟨o5,a5,_,d5⟩⟩:=st;simp only[Qq,QK,or_false] at hb;rcases hb with rfl | rfl | rfl | rfl | rfl
  ·exact⟨_,a1,λv q=>nomatch q⟩
  ·exact⟨_,a2,λv q=>nomatch q⟩
  ·exact⟨_,a3,λv q=>nomatch q⟩
  ·exact⟨_,a4,λv q=>by rw[d4] at q;cases q⟩
  ·exact⟨_,a5,λv q=>by rw[d5] at q;cases q⟩
 keep:=λi h h' st k=>by
  obtain⟨a1,a2,⟨a,b,a3⟩,a4,a5⟩:=st;exact⟨k z (by simp) _ a1,k TI (by simp) _ a2,⟨a,b,k TO (by simp) _ a3⟩,a4.at λo e=>k i1 (by simp) o e,a5.at λo e=>k i2 (by simp) o e⟩
 item:=by
  intro X hP hw hK hc i pins s σ H E I hf st hg;subst hP hw hK;obtain⟨xs,ys,x,y,h1,h2,hx,hy⟩:=hg;obtain⟨its1,r1,p1,_⟩:=I.tuple (SqT.of h1);obtain⟨its2,r2,p2,_⟩:=I.tuple (SqT.of h2);obtain⟨u1,hu1,ru1⟩:=r1.get hx;obtain⟨u2,hu2,ru2⟩:=r2.get hy;refine Rz.QkZ D st (show s.heap.IsTuple t1 its1.toArray from p1) (show s.heap.IsTuple t2 its2.toArray from p2) (by simpa using hu1) (by simpa using hu2) λh' st' tp kp=>?_
  have hlt:∀b∈[z,TI,TO,i1,i2],b≠s.heap.objs.size:=λb hb=>by
   obtain⟨a1,a2,⟨_,_,a3⟩,⟨o4,a4,_,d4⟩,⟨o5,a5,_,d5⟩⟩:=st;simp only[Qq,QK,or_false] at hb;rcases hb with rfl | rfl | rfl | rfl | rfl
   ·exact QC (Qk a1)
   ·exact QC (Qk a2)
   ·exact QC (Qk a3)
   ·exact QC (Qk a4)
   ·exact QC (Qk a5)
  have fr:H s.heap.objs.size=none:=I.hok.fresh (Qh _);refine⟨_,rfl,Qjy st'.zp λh2' z2 s2=>?_⟩;have I1:Inv X pins σ (upd H s.heap.objs.size (.tup [x,y])) { s with heap:=h2',toks:=s.toks }:=by
   refine I.turnedNew (ch:=[z,TI,TO,i1,i2]) hf (λb u hb e=>?_) (Qh _) ⟨by show 2<=sizeLine;decide,[u1,u2],.cons ru1 (.cons ru2 .nil),?_⟩
   ·simp only[Qq,QK,or_false,not_or] at hb;exact s2.extBut _ _ hb.1 (kp b u hb.1 hb.2.2.1 hb.2.2.2.1 hb.2.2.2.2 e)
   ·exact⟨_,s2.extBut _ _ (hlt z (by simp)).symm tp,rfl,rfl,0,rfl⟩
  refine⟨.ref s.heap.objs.size,_,I1,rfl,⟨_,x,y,fr,λxs' e=>?_,λys' e=>?_,rfl,rfl⟩,?_,λb hb=>?_⟩
  ·rw[h1] at e;cases e;exact hx
  ·rw[h2] at e;cases e;exact hy
  ·obtain⟨a1,a2,⟨a,b,a3⟩,a4,a5⟩:=st';exact⟨z2,s2.extBut _ _ D.a1 a2,⟨a,b,s2.extBut _ _ D.a2 a3⟩,a4.extBut s2.extBut D.a3,a5.extBut s2.extBut D.a4⟩
  ·rw[JC (hlt b hb)];exact(hf b hb).1
 done:=by
  intro X hP hw hK hc i pins s σ H E I hf st hg;subst hP hw hK;obtain⟨xs,ys,h1,h2,he⟩:=hg;obtain⟨its1,r1,p1,_⟩:=I.tuple (SqT.of h1);obtain⟨its2,r2,p2,_⟩:=I.tuple (SqT.of h2);have l1:=r1.length;have l2:=r2.length;refine Rz.Qnv (I.ok.hd hc) D st (show s.heap.IsTuple t1 its1.toArray from p1) (show s.heap.IsTuple t2 its2.toArray from p2) ?_ λh' kp=>⟨rfl,I.turnedAll (t':=s.toks) (ch:=[z,TI,TO,i1,i2]) hf λb u hb e=>?_⟩
  ·rcases he with q | q
   ·exact .inl (by simp;omega)
   ·exact .inr (by simp;omega)
  ·simp only[Qq,QK,or_false,not_or] at hb;exact kp b u hb.1 hb.2.2.1 hb.2.2.2.1 hb.2.2.2.2 e
 self:=λ_ _ _ _ _ st h=>Qco st.zp h
section
variable{X:Cx}
theorem apart_new(n t1 t2:Nat)(h1:t1<n)(h2:t2<n):Rz.Apart (n+4) (n+2) (n+3) n (n+1) t1 t2 where
 a1:=by show ¬(n+2=n+4);omega
 a2:=by show ¬(n+3=n+4);omega
 a3:=by show ¬(n=n+4);omega
 a4:=by show ¬(n+1=n+4);omega
 a5:=by show ¬(n+2=n+3);omega
 a6:=by show ¬(n+2=n);omega
 a7:=by show ¬(n+2=n+1);omega
 a8:=by show ¬(n+3=n);omega
 a9:=by show ¬(n+3=n+1);omega
 b1:=by show ¬(n=n+1);omega
 b2:=⟨by show ¬(t1=n+4);omega,by show ¬(t1=n+3);omega,by show ¬(t1=n);omega,by show ¬(t1=n+1);omega⟩
 b3:=⟨by show ¬(t2=n+4);omega,by show ¬(t2=n+3);omega,by show ¬(t2=n);omega,by show ¬(t2=n+1);omega⟩
def QyB(ta:TA):TI:=λσ H R=>ta σ H λvs H1=>∃t1 t2 xs ys,vs=[.ref t1,.ref t2]/\H1 t1=some (.tup xs)/\H1 t2=some (.tup ys)/\R (Itz t1 t2) H1
theorem QlO:bootBuiltins "zip" = some (.type "zip"):=by decide +kernel
theorem QtS{a b:QR}{elts:List QR}{x1}{tpos:Pos}{ta:TA}{p pos:Pos}(hg:Gl X "zip")(hm:X.mg "zip" = none)(ha:PA X [a,b] ta)(hs:starEach [a,b] X.env=[(false,eval a X.env),(false,eval b X.env)]:=by rfl)(hs2:starEach [b] X.env=[(false,eval b X.env)]:=by rfl) :
  PI X (.Tuple elts x1 tpos) (.Call (.Name "zip" p) [a,b] [] pos) (QyB ta):=by
 intro pins s σ H R I h;refine Qwd (Qa0 I hg hm QlO (Q5 (thn (ha pos pins s σ H _ I h) λus s1 ⟨vs,H1,I1,r1,q1⟩=>?_) (by rw[hs,hs2]) (by rw[hs2];rfl)));obtain⟨t1,t2,xs,ys,e,h1,h2,q⟩:=q1;subst e;obtain⟨u,v,rfl,ru,rv⟩:=vals2 r1;cases(show u=JP t1 from ru);cases(show v=JP t2 from rv);obtain⟨its1,w1,p1,_⟩:=I1.tuple (SqT.of h1);obtain⟨its2,w2,p2,_⟩:=I1.tuple (SqT.of h2);have n1:t1<s1.heap.objs.size:=I1.hok.lt h1;have n2:t2<s1.heap.objs.size:=I1.hok.lt h2;refine Rz.Qn1 (show s1.heap.IsTuple t1 its1.toArray from p1) (show s1.heap.IsTuple t2 its2.toArray from p2) λh' st kp=>?_
 refine Qco (s:={ s1 with heap:=h' }) st.zp ?_
 have D:=apart_new s1.heap.objs.size t1 t2 n1 n2;refine⟨s1.heap.objs.size+4,_,_,_,H1,rfl,I1.kept (t':=s1.toks) kp,Qmo D,st,λb hb=>?_,q⟩;have hb':s1.heap.objs.size<=b:=by
  simp only[Qq,QK,or_false] at hb;rcases hb with rfl | rfl | rfl | rfl | rfl<;>omega
 exact I1.fpOk hb' (I1.hok.fresh hb')
end
end L2
namespace Rk
open L2
def QxD:Option HO->Option (List V)
 |some (.tup xs)=>some xs
 |_=>none
def QeM(H:Hp):V->Option (List V)
 |.ref a=>QxD (H a)
 |_=>none
theorem QhP(H:Hp)(a:Addr):QeM H (.ref a)=QxD (H a):=rfl
def isT(H:Hp)(x:V):Bool:=(QeM H x).isSome
def isS:V->Bool
 |.str _=>true
 |_=>false
def Kn(p:Addr)(H:Hp):V->Prop
 |.non=>True
 |.bl _=>True
 |.int _=>True
 |.str _=>True
 |.ref a=>a≠p/\((∃xs,H a=some (.tup xs))∨(∃xs,H a=some (.lst xs))∨∃kvs,H a=some (.dK kvs))
 |_=>False
def KnD(p:Addr):Nat->Hp->V->Prop
 |0,H,x=>Kn p H x
 |n+1,H,x=>Kn p H x/\∀xs,QeM H x=some xs->∀y∈xs,KnD p n H y
def KX(p:Addr)(H H':Hp):Prop:=∀b o,b≠p->H b=some o->H' b=some o
theorem KX.of{p:Addr}{H H':Hp}(h:Same H H'):KX p H H':=λb o _ e=>h b o e
theorem KX.upd{p:Addr}{H:Hp}{o:HO}:KX p H (upd H p o):=λb u n e=>by rw[JC n];exact e
theorem KX.new{p q:Addr}{H:Hp}{o:HO}(h:H q=none):KX p H (L2.upd H q o):=KX.of (Jg h)
theorem KnD.low{p:Addr}{H:Hp}:∀{n:Nat}{x:V},KnD p (n+1) H x->KnD p n H x
 |0,x,h=>h.1
 |n+1,x,h=>⟨h.1,λxs e y hy=>KnD.low (h.2 xs e y hy)⟩
theorem KnD.tup{p:Addr}{H:Hp}{n:Nat}{a:Addr}{xs:List V}(hp:a≠p)(e:H a=some (.tup xs))(h:∀y∈xs,KnD p n H y):KnD p (n+1) H (.ref a):=
 ⟨⟨hp,.inl ⟨xs,e⟩⟩,λys z y hy=>h y (by
  have z':some xs=some ys:=by rw[<- z,QhP,e];rfl
  cases z';exact hy)⟩
theorem KnD.int{p:Addr}{H:Hp}(i:Int):∀(n:Nat),KnD p n H (.int i)
 |0=>trivial
 |n+1=>⟨trivial,λ_ e=>nomatch e⟩
theorem QfQ{H:Hp}{a:Addr}{xs:List V}(e:H a=some (.tup xs)):QeM H (.ref a)=some xs:=by rw[QhP,e];rfl
theorem QnI{K:PySem.W.Frag}{p:Addr}{H:Hp}:∀{x:V},Kn p H x->∃t,TyOf K H x t/\PySem.W.kitOne K t (.type "str")=some (isS x)
 |.non,h=>⟨_,.non,rfl⟩
 |.bl _,h=>⟨_,.bl _,rfl⟩
 |.int _,h=>⟨_,.int _,rfl⟩
 |.str _,h=>⟨_,.str _,rfl⟩
 |.ref a,⟨_,h⟩=>by
  rcases h with⟨xs,e⟩ | ⟨xs,e⟩ | ⟨xs,e⟩
  ·exact⟨_,.tup e,rfl⟩
  ·exact⟨_,.lst e,rfl⟩
  ·exact⟨_,.dK e,rfl⟩
 |.byt _,h=>h.elim
 |.flt _,h=>h.elim
 |.ty _,h=>h.elim
def QoU(H:Hp)(x:V):List Int:=((QeM H x).getD []).map λy=>match y with
 |.int i=>i
 |_=>0
def IntsT(H:Hp)(x:V)(ns:List Int):Prop:=∃a,x=.ref a/\H a=some (.tup (ns.map V.int))
theorem IntsT.eq{H:Hp}{x:V}{ns:List Int}(h:IntsT H x ns):QoU H x=ns:=by
 obtain⟨a,rfl,e⟩:=h;unfold QoU;rw[QfQ e];show(ns.map V.int).map _=ns;rw[Jo];exact List.map_id _
theorem Qck:bootBuiltins "isinstance" = some (.builtin "isinstance"):=by decide +kernel
theorem Qvh:bootBuiltins "int" = some (.type "int"):=by decide +kernel
theorem QsC:bootBuiltins "bool" = some (.type "bool"):=by decide +kernel
theorem Zv:bootBuiltins "tuple" = some (.type "tuple"):=by decide +kernel
theorem QlM:bootBuiltins "list" = some (.type "list"):=by decide +kernel
theorem Qvf:bootBuiltins "str" = some (.type "str"):=by decide +kernel
theorem Qey:bootBuiltins "all" = some (.builtin "all"):=by decide +kernel
theorem YF:bootBuiltins "len" = some (.builtin "len"):=by decide +kernel
theorem Qvg:bootBuiltins "max" = some (.builtin "max"):=by decide +kernel
theorem Qpf:bootBuiltins "min" = some (.builtin "min"):=by decide +kernel
end Rk
namespace L2
theorem QbP{J:It}{body:V->Hp->(Hp->Prop)->Prop}{Qn:Hp->Prop}{H:Hp}(n:Nat)(Pv:Nat->Hp->Prop)(h0:Pv 0 H)
  (hs:∀i H2,i<n->Pv i H2->J.go i H2/\∀x H3,J.yld i H2 x H3->∀k:Hp->Prop,(∀H6,Pv (i+1) H6->k H6)->body x H3 k)(hd:∀H2,Pv n H2->J.stop n H2/\Qn H2):QeN J body Qn H:=by
 refine⟨λi m H=>m=n - i/\i<=n/\Pv i H,⟨n,by simp,Js _,h0⟩,?_⟩;rintro i m H2 ⟨rfl,hi,p⟩;by_cases hlt:i<n
 ·obtain⟨go,st⟩:=hs i H2 hlt p;exact .inr ⟨go,λx H3 y=>st x H3 y _ λH6 p6=>⟨n - (i+1),by omega,rfl,hlt,p6⟩⟩
 ·have e:i=n:=by omega
  subst e;exact .inl (hd H2 p)
theorem Qex{J:It}{σ:St}{g:TG}{te:TE}{p:Addr}{H1:Hp}{Qn:Hp->Prop}(n:Nat)(hn:n<sizeLine)(F:Nat->Bool)(hp:H1 p=none)
  (hs:∀i H2,i<n->Same H1 H2->J.go i H2/\∀x H3,J.yld i H2 x H3->∀k:VK,(∀H6,Same H2 H6->k (.bl (F i)) H6)->g x σ H3 λσ4 H4=>Wk σ σ4/\te σ4 H4 k)
  (hst:∀H2,Same H1 H2->J.stop n H2)(hq:∀H2,Same H1 H2->H2 p=some (.lst (((Qg n).map F).map V.bl))->Qn H2) :
  QeN J (bOf σ g Qbg (Qpg p te)) Qn (upd H1 p (.lst [])):=by
 refine QbP n (λi H2=>Same H1 H2/\H2 p=some (.lst (((Qg i).map F).map V.bl))) ⟨Jg hp,Jh⟩ (λi H2 hi ⟨s2,e2⟩=>?_) λH2 ⟨s2,e2⟩=>⟨hst H2 s2,hq H2 s2 e2⟩
 obtain⟨go,st⟩:=hs i H2 hi s2;refine⟨go,λx H3 y k hk=>?_⟩;refine st x H3 y (λv H6=>∃ys,H6 p=some (.lst ys)/\ys.length<sizeLine/\k (upd H6 p (.lst (ys++[v])))) λH6 s6=>?_
 have e6:=s6 p _ e2;refine⟨_,e6,?_,hk _ ⟨λb o e=>?_,?_⟩⟩
 ·rw[Qe,Qe,Qv];omega
 ·have hb:b≠p:=J4 e hp;rw[JC hb];exact s6 b o (s2 b o e)
 ·rw[Jh,J6,Zg,Zg];rfl
end L2
namespace Rk
open L2
theorem range_getD{α:Type}(L:List α)(d:α):(Qg L.length).map (λi=>L.getD i d)=L:=by
 refine Z3 λi=>?_
 rw[Qr];by_cases hi:i<L.length
 ·rw[Q9 hi];show some (L.getD i d)=L[i]?;rw[Qi,Qf hi];rfl
 ·have h1:(Qg L.length)[i]? = none:=Q2 (by rw[Qv];omega);have h2:L[i]? = none:=Q2 (by omega);rw[h1,h2];rfl
theorem Qwm{H:Hp}{l:Addr}{o:HO}{Q:Hp->Prop}(h:H l=none)(k:∀H',Same H H'->H' l=some o->Q H'):Q (upd H l o):=k _ (Jg h) Jh
def Qb5(K:PySem.W.Frag):Sp:=λvs H Q _=>∃a ns k,vs=[.ref a,.int k]/\SqL K H a ((ns:List Int).map V.int)/\ns.length<2^20/\0<=k/\∀c,Q (.int c) H
def Qtr:Sp:=λvs H Q _=>∃c,vs=[.int c]/\∀p n,H p=none->Q (.ref p) (upd H p (.lst [.int n]))
def Cs(p:Addr)(H:Hp):List V->List (Int×Int)->Prop:=Qap λx ij=>∃d,d≠p/\x=.ref d/\H d=some (.tup [.int ij.1,.int ij.2])
theorem Cs.keep{p:Addr}{H H':Hp}(k:∀d xs,d≠p->H d=some (.tup xs)->H' d=some (.tup xs)):∀{ps:List V}{L:List (Int×Int)},Cs p H ps L->Cs p H' ps L:=λh=>Qap.mapP h λx ij ⟨d,n,e,q⟩=>⟨d,n,e,k d _ n q⟩
theorem Cs.kx{p:Addr}{H H':Hp}(k:KX p H H'){ps:List V}{L:List (Int×Int)}(h:Cs p H ps L):Cs p H' ps L:=h.keep λd xs n e=>k d _ n e
theorem Cs.len{p:Addr}{H:Hp}{ps:List V}{L:List (Int×Int)}(h:Cs p H ps L):ps.length=L.length:=QgJ h
theorem Cs.snoc{p:Addr}{H:Hp}{ps:List V}{L:List (Int×Int)}{x:V}{ij:Int×Int}(h:Cs p H ps L)(q:∃d,d≠p/\x=.ref d/\H d=some (.tup [.int ij.1,.int ij.2])):Cs p H (ps++[x]) (L++[ij]):=Paired.snoc h q
def Qvr(a b:Int×Int):Prop:=a.1<b.1∨(a.1=b.1/\a.2<b.2)
structure Good (h w:Int) (L:List (Int×Int)):Prop where
 asc:L.Pairwise Qvr
 ins:∀x∈L,0<=x.1/\x.1<h/\0<=x.2/\x.2<w
 len:L.length<=36
structure BoardAt (p:Addr) (H:Hp) (q:Addr) (h w:Int) (L:List (Int×Int)):Prop where
 ne:q≠p
 it:∃c ps,c≠p/\H q=some (.tup [.int h,.int w,.ref c])/\H c=some (.tup ps)/\Cs p H ps L
 h1:1<=h
 h6:h<=6
 w1:1<=w
 w6:w<=6
 good:Good h w L
theorem BoardAt.kx{p:Addr}{H H':Hp}{q:Addr}{h w:Int}{L:List (Int×Int)}(B:BoardAt p H q h w L)(k:KX p H H'):BoardAt p H' q h w L:=by
 obtain⟨ne,⟨c,ps,nc,e1,e2,cs⟩,h1,h6,w1,w6,g⟩:=B;exact⟨ne,⟨c,ps,nc,k q _ ne e1,k c _ nc e2,cs.kx k⟩,h1,h6,w1,w6,g⟩
theorem Qii(x:Int){m:Int}(h:0<m):0<=x % m/\x % m<m:=⟨Int.emod_nonneg _ (by omega),Int.emod_lt_of_pos _ h⟩
def notStar:QR->Bool
 |.Starred _ _=>false
 |_=>true
theorem J5{e:QR}{es:List QR}{env:Env}(h:notStar e=true):starEach (e::es) env=(false,eval e env)::starEach es env:=by
 cases e<;>first | rfl | cases h
section
variable{X:Cx}
theorem Qcc{e:QR}{es:List QR}{te:TE}{t:TA}(ha:PE X e te)(hr:PA X es t)(hs:notStar e=true:=by rfl):PA X (e::es) (Qa5 te t):=JD ha hr (J5 hs)
inductive PEs (X:Cx):List QR->List TE->Prop
 |nil:PEs X [] []
 |cons {e es te ts}:PE X e te->notStar e=true->PEs X es ts->PEs X (e::es) (te::ts)
def QxF:List TE->TA
 |[]=>QjU
 |t::ts=>Qa5 t (QxF ts)
theorem PEs.pa{es:List QR}{ts:List TE}(h:PEs X es ts):PA X es (QxF ts):=by
 induction h with
 |nil=>exact JA
 |cons a s _ ih=>exact Qcc a ih s
end
def Sm(H:Hp)(x:V):Prop:=∀ps,QeM H x=some ps->ps.length<sizeLine
def Part(p:Addr)(H:Hp)(x:V):Prop:=KnD p 2 H x/\Sm H x
def Qvo(p:Addr)(H:Hp)(x:V):Prop:=KnD p 3 H x/\Sm H x/\∀xs,QeM H x=some xs->∀y∈xs,Sm H y
theorem Qtf{H:Hp}{a:Addr}{xs ys:List V}(e:H a=some (.tup xs))(z:QeM H (.ref a)=some ys):ys=xs:=by
 rw[QfQ e] at z;cases z;rfl
theorem Part.tup{p:Addr}{H:Hp}{a:Addr}{xs:List V}(hp:a≠p)(e:H a=some (.tup xs))(hl:xs.length<sizeLine)(h:∀y∈xs,KnD p 1 H y):Part p H (.ref a):=
 ⟨KnD.tup hp e h,λps z=>by rw[Qtf e z];exact hl⟩
theorem QxW{P:V->Prop}:∀y∈([]:List V),P y:=λ_ h=>nomatch h
theorem Qxl{P:V->Prop}{a:V}{l:List V}(h:P a)(k:∀y∈l,P y):∀y∈a::l,P y:=λy hy=>by
 rcases Qq.mp hy with e | e
 ·subst e;exact h
 ·exact k y e
theorem Qw4{H:Hp}{p q:Addr}{o:HO}(e:H p=some o)(h:H q=none):q≠p:=λz=>by rw[z,e] at h;cases h
theorem Z9{n:Nat}(h:n<=1000):n<sizeLine:=Yy h (by decide)
def Fine(p:Addr):Nat->Hp->V->Prop
 |0,H,x=>Kn p H x/\Sm H x
 |n+1,H,x=>Kn p H x/\Sm H x/\∀xs,QeM H x=some xs->∀y∈xs,Fine p n H y
theorem Fine.knd{p:Addr}{H:Hp}:∀{n:Nat}{x:V},Fine p n H x->KnD p n H x
 |0,_,h=>h.1
 |_+1,_,h=>⟨h.1,λxs e y hy=>(h.2.2 xs e y hy).knd⟩
theorem Fine.thing{p:Addr}{H:Hp}{x:V}(h:∀n,Fine p n H x):Qvo p H x:=⟨(h 3).knd,(h 0).2,λxs e y hy=>((h 1).2.2 xs e y hy).2⟩
section
variable{X:Cx}
end
def Qms(t:TA):TE:=λσ H Q=>t σ H λxs H1=>xs.length<=1000/\∀a H2,Same H1 H2->H1 a=none->H2 a=some (.tup xs)->Q (.ref a) H2
def Qwq(t:TA):TE:=λσ H Q=>t σ H λxs H1=>xs.length<=1000/\∀a H2,Same H1 H2->H1 a=none->H2 a=some (.lst xs)->Q (.ref a) H2
section
variable{X:Cx}
theorem Qdn{es:List QR}{t:TA}{x1}{pos:Pos}(h:PA X es t):PE X (.Tuple es x1 pos) (Qms t):=by
 intro pins s σ H Q I hq;refine wpAny_Tuple_spliced (thn (h pos pins s σ H _ I hq) λus s1 ⟨xs,H1,I1,r,z,q⟩=>⟨by rw[<- r.length];exact Ju (Z9 z),?_⟩);have hf:H1 s1.heap.objs.size=none:=I1.hok.fresh (Qh _);refine⟨.ref s1.heap.objs.size,upd H1 s1.heap.objs.size (.tup xs),I1.laid (t':=s1.toks) (λb u e=>Qc _ e) (Qh _) ?_,rfl,q _ _ (Jg hf) hf Jh⟩;exact⟨Ju (Z9 z),us,r,⟨_,Qu _ rfl,rfl,rfl,_,rfl⟩⟩
theorem Qrf{es:List QR}{t:TA}{pos:Pos}(h:PA X es t):PE X (.List es pos) (Qwq t):=by
 intro pins s σ H Q I hq;refine Qvs (thn (h pos pins s σ H _ I hq) λus s1 ⟨xs,H1,I1,r,z,q⟩=>⟨by rw[<- r.length];exact Ju (Z9 z),?_⟩);have hf:H1 s1.heap.objs.size=none:=I1.hok.fresh (Qh _);refine⟨.ref s1.heap.objs.size,upd H1 s1.heap.objs.size (.lst xs),I1.laid (t':=s1.toks) (λb u e=>Qc _ e) (Qh _) ?_,rfl,q _ _ (Jg hf) hf Jh⟩;exact⟨Ju (Z9 z),us,0,r,Qu _ rfl⟩
end
def FineA(p:Addr)(H:Hp)(x:V):Prop:=∀n,Fine p n H x
theorem FineA.thing{p:Addr}{H:Hp}{x:V}(h:FineA p H x):Qvo p H x:=Fine.thing h
end Rk
namespace Rx
open PySem.Calls L2 PySem.W Builtin Builtin.ObjectAttr Builtin.Getset_descriptor
def ExAt(a C:Addr)(h:JR):Prop:=∃o vs,h.get? a=some o/\o.cls=.ref C/\o.data=.fields vs
theorem ExAt.ty{M:Qs4}{h:JR}{a C:Addr}(x:ExAt a C h):Looks M h (typeOf (.ref a)) (.ref C):=by
 obtain⟨o,vs,e,c,_⟩:=x;exact c ▸ (Looks.ld e).andThen .now
section
variable{prog:Qz}{w:Jf}{A:Jb}{E:Value->Shared->Prop}{s:Shared}{K:PySem.W.Frag}{a C:Addr}
end
end Rx
namespace Rx
open PySem.Calls L2
abbrev mroV:List Value:=[.type "ValueError",.type "Exception",.type "BaseException",.type "object"]
def Qvp(h:JR)(C:Addr):Prop:=∃bm N nm q bs hdct sn sub ab col dd k0 k1 k2 k3 k5 mN,
 h.get? C=some (excClassObj nm q C N bs bm hdct sn sub ab col dd k0 k1 k2 k3 k5 "ValueError.__new__")/\h.Ns N mN/\mN "__init__" = none/\OwnTail h mroV bm
theorem Qkf{K:PySem.W.Frag}{h:JR}{C:Addr}(X:K.In h)(q:PySem.W.excIn K C mroV "ValueError.__new__" = true):Qvp h C:=by
 unfold PySem.W.excIn at q;split at q;next dd cd sl ho=>
  split at q;next C' bm k0 k1 k2 k3 n k5 hm hs=>
   obtain⟨q,e6⟩:=QU.mp q;obtain⟨q,e5⟩:=QU.mp q;obtain⟨q,e4⟩:=QU.mp q;obtain⟨q,e3⟩:=QU.mp q;obtain⟨e1,e2⟩:=QU.mp q;cases beq_iff_eq.mp e1;cases beq_iff_eq.mp e2;rcases cd with⟨c1,c2,c3,c4,c5,c6,c7,c8,c9,ca,cb⟩
   rcases sl with⟨sl⟩
   have e7:cb=false:=by
    cases cb with
    |false=>rfl
    |true=>cases e3
   have hm:c3=.ref C::bm:=hm;have hs:sl=[k0,k1,k2,k3,some (.builtin "ValueError.__new__"),k5]:=hs;subst hm hs e7;have hn:h.Ns c4 (h.nsMap c4):=.of_isNs (PySem.W.isNs_of_in X e5);exact⟨_,_,_,_,_,_,_,_,_,_,_,_,_,_,_,_,_,X _ _ ho,hn,PySem.W.nsMap_none_of_in X e5 (beq_iff_eq.mp e6),PySem.W.tail_of_in X e4⟩
  next=>cases q
 next=>cases q
theorem obj_there{P:Qz}{w:Jf}{H:Hp}{h:JR}{a:Addr}{o:HO}(x:ObjOk P w H h a o):∃u,h.get? a=some u:=by
 cases o with
 |lst xs=>obtain⟨_,_,_,_,e⟩:=x;exact⟨_,e⟩
 |tup xs=>obtain⟨_,_,_,p⟩:=x;obtain⟨_,e,_⟩:=p;exact⟨_,e⟩
 |dK kvs=>obtain⟨_,_,_,_,o,_,_,e,_⟩:=x;exact⟨_,e⟩
 |dT kvs=>obtain⟨_,_,_,_,o,_,_,e,_⟩:=x;exact⟨_,e⟩
 |set S n=>obtain⟨o,_,_,_,e,_⟩:=x;exact⟨_,e⟩
 |ins C dx fs=>obtain⟨_,_,_,e,_⟩:=x;exact⟨_,e⟩
 |own y=>exact x
 |xd fs=>obtain⟨_,⟨_,_,_,e,_⟩,_⟩:=x;exact⟨_,e⟩
 |rng lo hi=>obtain⟨_,_,_,e⟩:=x;exact⟨_,e⟩
 |frz ob u=>exact⟨_,x.1⟩
 |tbl ps=>exact⟨_,x⟩
 |met f y=>exact⟨_,x⟩
 |ext φ=>exact x.2.1
def Fly(P:Qz)(w:Jf)(outer:List Env)(H:Hp)(s:Shared)(C:Addr)(H':Hp)(e:Value)(s':Shared):Prop:=
 ∃(a t:Addr)(B:JR),e=.ref a/\s'.os=s.os/\QcZ s'.gens/\Qwb B outer a (.ref C) (.ref t) s'.heap/\s.heap.get? a=none/\H' a=none /\
  ∀h2:JR,B.StaysIn h2->s'.heap.UpToSlots h2->Un (frs outer) [] H H' s.heap h2/\HOk P w H' h2
def CXE(P:Qz)(w:Jf):CXT:=λouter H s E e s'=>∃C H',Fly P w outer H s C H' e s'/\E (.ref C) none H'
def Qtl(E:XK)(C:Addr)(te:TE):TS:=λ_ σ H=>te σ H λ_ H1=>E (.ref C) none H1
section
variable{X:Cx}{E:XK}{C:Addr}{x:Str}{e0:QR}{te:TE}{np cpos pos:Pos}
theorem QuQ{pins:List (Addr×Obj)}{σ:L2.St}{H:Hp}{s:Shared}{h1:JR}{a:Addr}{vs:List Value}{M:Qs4}{EE:Value->Shared->Prop}(I:Inv X pins σ H s)(hstk:X.stack=X.env::X.outer)(hfr:X.env.frame=some X.env.locals)(hex:X.ex=[])
  (hx:Heap.MadeExcOf s.heap h1 a (.ref C) vs) :
  wpAny M X.A (leaving X.env (.ref a)) (λ_ s2=>Fly X.prog X.w X.outer X.H₀ X.s₀ C H (.ref a) s2) EE { s with heap:=h1 }:=by
 have fr:X.A.frames=some (X.env::X.outer):=by rw[<- hstk];exact I.ok.frames
 have ff:s.heap.FunFrames X.base (X.env::X.outer):=by rw[<- hstk];exact I.stack
 have hin:∀env∈X.env::X.outer,∀b,env.frame=some b->b∈frs (X.env::X.outer):=λenv he b hb=>Qc2.mpr ⟨env,he,hb⟩
 refine wpAny_leaves_madeW (base:=PySem.W.hideAll s.heap (frs (X.env::X.outer))) (h:=s.heap) (L:=X.env.locals) fr hfr (λb o q=>PySem.W.of_hideAll _ q) (PySem.W.funFrames_hide ff hin) hx λh' t x1 x2 x3 x4=>?_
 have nex:∀b:Addr,b∉X.ex:=λb=>by rw[hex];simp
 have free0:X.s₀.heap.get? a=none:=by
  cases q:X.s₀.heap.get? a with
  |none=>rfl
  |some o=>
   obtain⟨o',e⟩:=I.base.there a o q (nex a);rw[hx.new] at e;cases e
 have freeH:H a=none:=by
  cases q:H a with
  |none=>rfl
  |some o=>
   obtain⟨u,e⟩:=obj_there (I.hok a o q);rw[hx.new] at e;cases e
 have stf:∀b∈frs (X.env::X.outer),H b=none:=λb hb=>I.stkFree b (by rw[hstk];exact hb)
 refine⟨a,t,_,rfl,I.os,I.bare,x1,free0,freeH,λh2 st up=>?_⟩;have up2:s.heap.UpToSlots h2:=((QvA hx.keeps).trans x4).trans up;have kp:∀b o,s.heap.get? b=some o->b∉frs (X.env::X.outer)->h2.get? b=some o:=λb o e n=>st b o (PySem.W.hideAll_get _ e n)
 have own:∀b o,X.s₀.heap.get? b=some o->b≠X.env.locals:=λb o e z=>by
  have h1:=Qk e;have h2:=I.ok.above;rw[z] at h1;exact absurd (QH h1 h2) (ZF _)
 have nfr:∀b o,X.s₀.heap.get? b=some o->b∉frs X.outer->b∉frs (X.env::X.outer):=λb o e n hb=>by
  unfold frs at hb n;rw[Zh,hfr] at hb;rcases Qq.mp hb with z | z
  ·exact own b o e z
  ·exact n z
 have hdat:∀b∈frs X.outer,∀o,s.heap.get? b=some o->∀vs,o.data≠.fields vs:=λb hb o e=>by
  obtain⟨_,o',ho',hd⟩:=I.funs.mem hb;rw[e] at ho';cases ho';exact hd
 refine⟨⟨λb o e n hb _=>kp b o (I.base.keep b o e n hb (nex b)) (nfr b o e hb),λb o e n hb _=>?_,λb o e n _=>I.base.free b o e n (nex b),λb o e _=>?_,I.base.tups,I.base.frzs,I.base.tbls⟩,λb o e=>?_⟩
 ·obtain⟨sl,e1⟩:=I.base.slot b o e n hb (nex b);obtain⟨sl2,e2⟩:=up2 b _ e1 (hdat b hb _ e1);exact⟨sl2,e2⟩
 ·obtain⟨o',e1⟩:=I.base.there b o e (nex b);by_cases hb:b∈frs X.outer
  ·obtain⟨sl2,e2⟩:=up2 b _ e1 (hdat b hb _ e1);exact⟨_,e2⟩
  ·exact⟨o',kp b o' e1 (nfr b o e hb)⟩
 ·refine(I.hok b o e).stay (λc u hc q=>kp c u q λhm=>?_) (λ_ q=>q) λ_ _ q=>q
  have z:=stf c hm;rcases hc with r | r
  ·rw[r,e] at z;cases z
  ·rw[r] at z;cases z
theorem Qh5(hxe:∀e s1,wpAny (model X.prog X.w) X.A (leaving X.env e) (λ_ s2=>CXE X.prog X.w X.outer X.H₀ X.s₀ E e s2) (λe' s2=>CXE X.prog X.w X.outer X.H₀ X.s₀ E e' s2) s1->X.xe e s1)
  (hstk:X.stack=X.env::X.outer)(hfr:X.env.frame=some X.env.locals)(hex:X.ex=[])(hc:X.calm=true)(hg:Gl X x)(hm:X.mg x=some (.ref C))(q:PySem.W.excIn X.K C mroV "ValueError.__new__" = true)
  (ha:PE X e0 te)(he:starEach [e0] X.env=[(false,eval e0 X.env)]:=by rfl)(hd:(x == ("__debug__" : Str))=false:=by decide) :
  PS X (.Raise (some (.Call (.Name x np) [e0] [] cpos)) none pos) (Qtl E C te):=by
 intro pins s σ H D I h;obtain⟨bm,N,nm,qn,bs,hdct,sn,sub,ab,col,dd,k0,k1,k2,k3,k5,mN,hC,hN,hni,T⟩:=Qkf I.ok.mod.kin q;refine wpAny_Raise_call_subT (k5:=k5) (k3:=k3) (k2:=k2) (k1:=k1) (k0:=k0) (dd:=dd) (col:=col) (ab:=ab) (sub:=sub) (sn:=sn) (hdct:=hdct) (bs:=bs) (N:=N) (q:=qn) (nm:=nm) (C:=C) PySem.F.excBase_ValueError (T.hasType PySem.F.excBase_ValueError.hasBase) (I.ok.hd hc) (by rw[he];rfl) hni (Qhf I hg hm ?_ hd);refine⟨rfl,?_⟩;rw[he];refine Qb4 (Ql5 (thn (ha pins s σ H _ I h) λu s1 ⟨v,H1,I1,r1,q1⟩=>Qmj ⟨rfl,by show 1<=sizeLine;decide,I1.bk _ _ hC,hN.keeps I1.bk,T.keeps I1.bk,λh' e hx=>?_⟩));exact hxe _ _ (thn (QuQ I1 hstk hfr hex hx) λ_ s2 z=>⟨C,H1,z,q1⟩)
end
section
variable{X:Cx}{pins:List (Addr×Obj)}{σ:L2.St}{H:Hp}{s:Shared}
end
def XP(X:Cx)(pins:List (Addr×Obj))(Ex:L2.St->Addr->Hp->Prop)(e:Value)(s1:Shared):Prop:=
 ∃(σ:L2.St)(C:Addr)(H':Hp)(a t:Addr)(B:JR),e=.ref a/\Qwb B X.stack a (.ref C) (.ref t) s1.heap/\H' a=none/\X.s₀.heap.get? a=none/\(∀p∈X.pn++pins,p.1≠a) /\
  (∀(h2:JR)(tk:Nat),B.StaysIn h2->s1.heap.UpToSlots h2->Inv X pins σ H' { s1 with heap:=h2,toks:=tk })/\Ex σ C H'
section
variable{X:Cx}{k:Nat}{f:Addr}{fd:QN}{ps:List Str}{sp:Sp}{x:Str}{p pos:Pos}{e:QR}{es:List QR}{t:TA}
end
section
variable{X:Cx}{R:Addr}{i:Nat}{n r:Str}{call hx:QR}{tc:TX}{th:TE}{rp np hp hpos pos:Pos}
end
section
variable{P:Qz}{w:Jf}{K:PySem.W.Frag}{mg:Str->Option Value}{base:JR}
end
section
variable{X:Cx}{k:Nat}{f:Addr}{fd:QN}{ps:List Str}{sp:Sp}{x:Str}{p pos:Pos}{e:QR}{es:List QR}{t:TA}
end
section
variable{X:Cx}
theorem bools_eq{bs:List Bool}{us:List Value}(r:Vals (bs.map V.bl) us):us=bs.map Qa2:=by
 induction bs generalizing us with
 |nil=>cases r;rfl
 |cons b bs ih=>
  cases r with
  |cons r t=>
   cases(show _=Qa2 b from r);rw[ih t];rfl
end
end Rx
namespace Rd
open L2
mutual
inductive Dat (H:Hp):V->Qb->Prop
 |non:Dat H .non .none
 |bl (b:Bool):Dat H (.bl b) (.bool b)
 |int (i:Int):Dat H (.int i) (.int i)
 |str (x:Str):Qb2 (.str x)=true->Dat H (.str x) (.str x)
 |tup {a:Addr} {xs:List V} {ds:List Qb}:H a=some (.tup xs)->Dats H xs ds->Dat H (.ref a) (.tuple ds)
 |lst {a:Addr} {xs:List V} {ds:List Qb}:H a=some (.lst xs)->Dats H xs ds->Dat H (.ref a) (.list ds)
inductive Dats (H:Hp):List V->List Qb->Prop
 |nil:Dats H [] []
 |cons {x:V} {xs:List V} {d:Qb} {ds:List Qb}:Dat H x d->Dats H xs ds->Dats H (x::xs) (d::ds)
end
mutual
theorem ZM{P:Qz}{w:Jf}{H:Hp}{h:JR}(ok:HOk P w H h):∀(d:Qb)(x:V)(v:Value),Dat H x d->RelV x v->(∃as,QjA h v d as)/\d.canLay0=true
 |.none,_,v,.non,r=>by cases r;exact⟨⟨_,.none⟩,rfl⟩
 |.bool b,_,v,.bl _,r=>by cases r;exact⟨⟨_,.bool b⟩,rfl⟩
 |.int i,_,v,.int _,r=>by obtain⟨t,rfl⟩:=r;exact⟨⟨_,.int i t⟩,rfl⟩
 |.str z,_,v,.str _ c,r=>by obtain⟨t,rfl⟩:=r;exact⟨⟨_,.str z t⟩,c⟩
 |.tuple ds,_,v,.tup (a:=a) (xs:=xs) e q,r=>by
  cases r;obtain⟨_,its,rv,o,ho,hc,_,n,hd⟩:=ok a _ e;obtain⟨⟨as,ra⟩,cl⟩:=Yr ok ds xs its q rv;exact⟨⟨as,.tuple ho hc hd ra⟩,cl⟩
 |.list ds,_,v,.lst (a:=a) (xs:=xs) e q,r=>by
  cases r;obtain⟨_,its,n,rv,ho⟩:=ok a _ e;obtain⟨⟨as,ra⟩,cl⟩:=Yr ok ds xs its q rv;exact⟨⟨a::as,.list ho rfl rfl ra⟩,cl⟩
 |.dict _,_,_,q,_=>nomatch q
theorem Yr{P:Qz}{w:Jf}{H:Hp}{h:JR}(ok:HOk P w H h):∀(ds:List Qb)(xs:List V)(vs:List Value),Dats H xs ds->Vals xs vs->(∃as,Qc0 h vs ds as)/\JF ds=true
 |[],_,vs,.nil,r=>by cases r;exact⟨⟨_,.nil⟩,rfl⟩
 |d::ds,_,vs,.cons (x:=x) (xs:=xs) q qs,r=>by
  cases r with
  |cons r rs=>
   obtain⟨⟨a1,r1⟩,c1⟩:=ZM ok d x _ q r;obtain⟨⟨a2,r2⟩,c2⟩:=Yr ok ds xs _ qs rs;exact⟨⟨_,.cons r1 r2⟩,by simp[JF,c1,c2]⟩
end
mutual
theorem Qil{H H':Hp}(s:Same H H'):∀(d:Qb)(x:V),Dat H x d->Dat H' x d
 |.none,_,.non=>.non
 |.bool _,_,.bl _=>.bl _
 |.int _,_,.int _=>.int _
 |.str _,_,.str _ c=>.str _ c
 |.tuple ds,_,.tup (xs:=xs) e q=>.tup (s _ _ e) (Qch s ds xs q)
 |.list ds,_,.lst (xs:=xs) e q=>.lst (s _ _ e) (Qch s ds xs q)
 |.dict _,_,q=>nomatch q
theorem Qch{H H':Hp}(s:Same H H'):∀(ds:List Qb)(xs:List V),Dats H xs ds->Dats H' xs ds
 |[],_,.nil=>.nil
 |d::ds,_,.cons (x:=x) (xs:=xs) q qs=>.cons (Qil s d x q) (Qch s ds xs qs)
end
theorem Dat.same{H H':Hp}{x:V}{d:Qb}(q:Dat H x d)(s:Same H H'):Dat H' x d:=Qil s d x q
theorem Dats.same{H H':Hp}{xs:List V}{ds:List Qb}(q:Dats H xs ds)(s:Same H H'):Dats H' xs ds:=Qch s ds xs q
theorem Dats.length{H:Hp}:∀{xs:List V}{ds:List Qb},Dats H xs ds->xs.length=ds.length
 |_,_,.nil=>rfl
 |_,_,.cons _ q=>by rw[QZ,QZ,q.length]
section
variable{X:Cx}
def Qyr(X:Cx):R2:=λx y H Q=>∃dx dy,Dat H x dx/\Dat H y dy/\X.A.units+min dx.depth dy.depth<cLine/\Q (.bl (QL dx dy)) H
theorem Quk:OpR X (compareOp .Eq) (Qyr X):=by
 intro pins s σ H x y v u Q I rx ry h;obtain⟨dx,dy,qx,qy,hu,q⟩:=h;obtain⟨⟨as,ra⟩,ca⟩:=ZM I.hok dx x v qx rx;obtain⟨⟨bs,rb⟩,cb⟩:=ZM I.hok dy y u qy ry;exact SeqAt.compareEq_reads ra rb ca cb hu ⟨.bl _,H,I,rfl,q⟩
open Classical in
noncomputable def eqH (h:JR) (d:Qb) (y:Value):Bool:=decide (∃e as,QjA h y e as/\e.canLay0=true/\QL e d=true)
open Classical in
theorem Qxn{h:JR}{d:Qb}{y:Value}(q:∃e as,QjA h y e as/\e.canLay0=true/\QL e d=true):eqH h d y=true:=by
 unfold eqH;exact decide_eq_true q
open Classical in
theorem Qxo{h:JR}{d:Qb}{y:Value}(q:¬ ∃e as,QjA h y e as/\e.canLay0=true/\QL e d=true):eqH h d y=false:=by
 unfold eqH;exact decide_eq_false q
theorem Qo6{h:JR}{d e:Qb}{y:Value}{as:List Addr}(r:QjA h y e as)(c:e.canLay0=true):eqH h d y=QL e d:=by
 cases q:QL e d with
 |true=>exact Qxn ⟨e,as,r,c,q⟩
 |false=>
  refine Qxo λ⟨e',as',r',c',q'⟩=>?_
  rw[<- SeqAt.Reads.unique e e' y as as' c r r',q] at q';cases q'
theorem QdK{h:JR}{d:Qb}:∀{vs:List Value}{ds:List Qb}{as:List Addr},Qc0 h vs ds as->JF ds=true->vs.any (eqH h d)=ds.any λe=>QL e d
 |_,_,_,.nil,_=>rfl
 |_,_,_,.cons r rs,c=>by
  simp only[JF,Jy] at c;rw[Yv,Yv,Qo6 r c.1,QdK rs c.2]
theorem Qds{A:Jb}{s:Shared}{d:Qb}{v:Value}{bs:List Addr}(rv:QjA s.heap v d bs)(cv:d.canLay0=true):∀{vs:List Value}{ds:List Qb}{as:List Addr},Qc0 s.heap vs ds as->JF ds=true->A.units+d.depth<cLine ->
  ∀u∈vs,Qmc A s u v (eqH s.heap d u)
 |_,_,_,.nil,_,_=>λu hu=>nomatch hu
 |_,_,_,.cons (d:=e) r rs,c,hu=>λu hm=>by
  simp only[JF,Jy] at c;rcases Qq.mp hm with z | z
  ·subst z;rw[Qo6 r c.1];exact Qoi e d A s _ v _ bs r rv c.1 cv (Yy (Nat.add_le_add_left (QeF _ _) _) hu)
  ·exact Qds rv cv rs c.2 hu u z
def QxO(X:Cx)(neg:Bool):R2:=λx y H Q=>∃c ps ds d,y=.ref c/\H c=some (.tup ps)/\Dats H ps ds/\Dat H x d/\X.A.in1.units+d.depth<cLine/\Q (.bl (if neg then !(ds.any λe=>QL e d) else ds.any λe=>QL e d)) H
theorem Qug:OpR X (compareOp .In) (QxO X false):=by
 intro pins s σ H x y v u Q I rx ry h;obtain⟨c,ps,ds,d,rfl,hc,qs,qx,hu,q⟩:=h;cases ry;obtain⟨⟨as,ra⟩,ca⟩:=ZM I.hok d x v qx rx;obtain⟨_,its,rv,tp⟩:=I.hok c _ hc;have tp:=TupN.tup tp;obtain⟨⟨bs,rb⟩,cb⟩:=Yr I.hok ds ps its qs rv;refine Qoh (eqH s.heap d) tp (λw hw=>Qds ra ca rb cb hu w (Y4.mp hw)) ⟨.bl _,H,I,rfl,?_⟩;rw[show its.toArray.any (eqH s.heap d)=its.any (eqH s.heap d) by simp,QdK rb cb];exact q
theorem QkL:OpR X (compareOp .NotIn) (QxO X true):=by
 intro pins s σ H x y v u Q I rx ry h;obtain⟨c,ps,ds,d,rfl,hc,qs,qx,hu,q⟩:=h;cases ry;obtain⟨⟨as,ra⟩,ca⟩:=ZM I.hok d x v qx rx;obtain⟨_,its,rv,tp⟩:=I.hok c _ hc;have tp:=TupN.tup tp;obtain⟨⟨bs,rb⟩,cb⟩:=Yr I.hok ds ps its qs rv;refine SeqAt.notIn_tupleAt (eqH s.heap d) tp (λw hw=>Qds ra ca rb cb hu w (Y4.mp hw)) ⟨.bl _,H,I,rfl,?_⟩;rw[show its.toArray.any (eqH s.heap d)=its.any (eqH s.heap d) by simp,QdK rb cb];exact q
end
section
variable{X:Cx}
end
end Rd
namespace L2
def Ite(l:Addr):It:=
 ⟨λi H=>∃xs x,H l=some (.lst xs)/\xs[i]? = some x,
  λi H v H'=>∃p x,H p=none/\(∀xs,H l=some (.lst xs)->xs[i]? = some x)/\v=.ref p/\H'=upd H p (.tup [.int (i:Nat),x]),
  λi H=>∃xs,H l=some (.lst xs)/\xs.length<=i⟩
theorem QjP{P:Qz}{w:Jf}{K:PySem.W.Frag}{elts:List QR}{x1}{tpos:Pos}{e it l:Addr}(hne:e≠it) :
  Turn P w K (.Tuple elts x1 tpos) (Ite l) [e,it] e (λi h=>(∃old,IsEnum h e it (i:Nat) old)/\h.IsListIter it l i) where
 mem:=by simp
 obj:=λi h st b hb=>by
  obtain⟨⟨old,a1⟩,⟨o2,a2,_,d2⟩⟩:=st;simp only[Qq,QK,or_false] at hb;rcases hb with rfl | rfl
  ·exact⟨_,a1,λv q=>nomatch q⟩
  ·exact⟨_,a2,λv q=>by rw[d2] at q;cases q⟩
 keep:=λi h h' st k=>by
  obtain⟨⟨old,a1⟩,⟨o2,a2,c2⟩⟩:=st;exact⟨⟨old,k e (by simp) _ a1⟩,o2,k it (by simp) _ a2,c2⟩
 item:=by
  intro X hP hw hK hc i pins s σ H E I hf st hg;subst hP hw hK;obtain⟨xs,x,h1,hx⟩:=hg;obtain⟨⟨old,a1⟩,a2⟩:=st;obtain⟨its,r1,p1,_⟩:=I.list (SqL.of h1);obtain⟨u,hu,ru⟩:=r1.get hx;refine wpAny_pyNext_enum_item a1 a2 p1.isList (x:=u) (by simpa using hu) hne λh' o' l' tp sz kp=>?_
  have fr:H s.heap.objs.size=none:=I.hok.fresh (Qh _);have n1:e≠s.heap.objs.size:=QC (Qk a1);have n2:it≠s.heap.objs.size:=by
   obtain⟨o2,a2,_⟩:=a2;exact QC (Qk a2)
  refine⟨_,rfl,Qbc o' λh2 e2 s2=>?_⟩;have I1:Inv X pins σ (upd H s.heap.objs.size (.tup [.int (i:Nat),x])) { s with heap:=h2,toks:=s.toks+1 }:=by
   refine I.turnedNew (ch:=[e,it]) hf (λb v hb q=>?_) (Qh _) ⟨by show 2<=sizeLine;decide,[.int (i:Nat) s.toks,u],.cons ⟨_,rfl⟩ (.cons ru .nil),?_⟩
   ·simp only[Qq,QK,or_false,not_or] at hb;exact s2.extBut _ _ hb.1 (kp b v hb.1 hb.2 q)
   ·exact⟨_,s2.extBut _ _ n1.symm tp,rfl,rfl,0,rfl⟩
  refine⟨.ref s.heap.objs.size,_,I1,rfl,⟨_,x,fr,λxs' q=>?_,rfl,rfl⟩,⟨⟨u,e2⟩,?_⟩,λb hb=>?_⟩
  ·rw[h1] at q;cases q;exact hx
  ·exact l'.extBut s2.extBut hne.symm
  ·simp only[Qq,QK,or_false] at hb;rcases hb with rfl | rfl
   ·rw[JC n1];exact(hf _ (by simp)).1
   ·rw[JC n2];exact(hf _ (by simp)).1
 done:=by
  intro X hP hw hK hc i pins s σ H E I hf st hg;subst hP hw hK;obtain⟨xs,h1,he⟩:=hg;obtain⟨⟨old,a1⟩,a2⟩:=st;obtain⟨its,r1,p1,_⟩:=I.list (SqL.of h1);have l1:=r1.length;refine wpAny_pyNext_enum_end (I.ok.hd hc) a1 a2 p1.isList (by simp;omega) λh' kp=>⟨rfl,I.turnedAll (t':=s.toks) (ch:=[e,it]) hf λb v hb q=>?_⟩
  simp only[Qq,QK,or_false,not_or] at hb;exact kp b v hb.2 q
 self:=λ_ _ _ _ _ st h=>by
  obtain⟨⟨old,a1⟩,_⟩:=st;exact Yi a1 h
def Qxj(ta:TA):TI:=λσ H R=>ta σ H λvs H1=>∃l xs,vs=[.ref l]/\H1 l=some (.lst xs)/\R (Ite l) H1
theorem QdI:bootBuiltins "enumerate" = some (.type "enumerate"):=by decide +kernel
section
variable{X:Cx}
theorem Qkt{a:QR}{elts:List QR}{x1}{tpos:Pos}{ta:TA}{p pos:Pos}(hg:Gl X "enumerate")(hm:X.mg "enumerate" = none)(ha:PA X [a] ta)(hs:starEach [a] X.env=[(false,eval a X.env)]:=by rfl) :
  PI X (.Tuple elts x1 tpos) (.Call (.Name "enumerate" p) [a] [] pos) (Qxj ta):=by
 intro pins s σ H R I h;refine Qwd (Qa0 I hg hm QdI (Q5 (thn (ha pos pins s σ H _ I h) λus s1 ⟨vs,H1,I1,r1,q1⟩=>?_) hs rfl));obtain⟨l,xs,e,h1,q⟩:=q1;subst e;obtain⟨u,rfl,ru⟩:=vals1 r1;cases(show u=JP l from ru);obtain⟨its,w1,p1,_⟩:=I1.list (SqL.of h1);refine call_enumerate_list p1.isList λh' e1 i1 sz kp=>?_
 refine Yi (s:={ s1 with heap:=h' }) e1 ?_
 refine⟨s1.heap.objs.size+1,_,_,_,H1,rfl,I1.kept (t':=s1.toks) kp,QjP (by show ¬(s1.heap.objs.size+1=s1.heap.objs.size);omega),⟨⟨_,e1⟩,i1⟩,λb hb=>?_,q⟩;have hb':s1.heap.objs.size<=b:=by
  simp only[Qq,QK,or_false] at hb;rcases hb with rfl | rfl<;>omega
 exact I1.fpOk hb' (I1.hok.fresh hb')
end
section
variable{prog:Qz}{w:Jf}{A:Jb}{R:Result->Shared->Prop}{s:Shared}
theorem QfV{elt tg iter:QR}{ifs:List QR}{g0:QeH}{scope:YW}{pos:Pos}{it acc:Value}{env:Env}
  (h0:codeAny (model prog w) A (.compLoop (.ListComp elt [g0,⟨tg,iter,ifs,0⟩] scope pos) 1 it acc env) R s)
  (h:wpAny (model prog w) A (pyIter it) (λit' s'=>codeAny (model prog w) A (.compLoop (.ListComp elt [g0,⟨tg,iter,ifs,0⟩] scope pos) 1 it' acc env) R s') (notedBy (model prog w) A env λx s'=>R (.error x) s') s) :
  codeAny (model prog w) A (.compStart (.ListComp elt [g0,⟨tg,iter,ifs,0⟩] scope pos) 1 it acc env) R s:=by
 refine codeAny_of_tree ?_
 show wpAny _ _ ((compStart (.ListComp elt [g0,⟨tg,iter,ifs,0⟩] scope pos) 1 it acc env).onRaise (λx=>do noteFrame x env;standAt theWindowsPlace)) _ _ s;refine wpAny_notedAt ?_
 unfold compStart;show wpAny _ _ (ask >>= _) _ _ s;refine wpAny_bind (wpAny_askSetting (wpAny_ite ?_));split
 ·first
   |exact wpAny_bind (Qm (Qm ⟨rfl,h0⟩))
   |exact Qm ⟨rfl,h0⟩
 ·first
   |exact wpAny_bind (wpAny_rule (wpAny_bind (wpAny_standAt (wpAny_bind (wpAny_mono h (λit' s' h'=>Qm ⟨rfl,h'⟩) λ_ _ x=>x)))))
   |exact wpAny_bind (wpAny_rule (wpAny_bind (wpAny_standAt (wpAny_bind (wpAny_mono h (λit' s' h'=>Qm (Qm ⟨rfl,h'⟩)) λ_ _ x=>x)))))
end
theorem QjO{Y:Cx}{elt tg iter:QR}{ifs:List QR}{g0:QeH}{scope:YW}{cpos:Pos}{it D:Addr}(Q:PySem.Fin->Shared->Prop)(E:Value->Shared->Prop)(s:Shared)
  (h:wpAny (model Y.prog Y.w) Y.A (pyNext (.ref it)) (λr s1=>match r with
   |none=>Q (.done .next) s1
   |some v=>wpAny (model Y.prog Y.w) Y.A (letOwnedTupleGo tg (.ref it) v) (λ_ s2=>Qn8 Y tg ifs (QlX Y elt D) v (λs3=>Q (.again (.compLoop (.ListComp elt [g0,⟨tg,iter,ifs,0⟩] scope cpos) 1 (.ref it) (.ref D) Y.env)) s3) s2) E s1) E s) :
  wpAny (model Y.prog Y.w) Y.A (compTurn (.ListComp elt [g0,⟨tg,iter,ifs,0⟩] scope cpos) 1 (.ref it) (.ref D) Y.env) Q E s:=by
 have e:compTurn (.ListComp elt [g0,⟨tg,iter,ifs,0⟩] scope cpos) 1 (.ref it) (.ref D) Y.env=(do
   standAt iter.pos
   match <- pyNext (.ref it) with
   |none=>pure (.done .next)
   |some v=>
    letOwnedTupleGo tg (.ref it) v
    assign tg Y.env v
    let mut ok:=true
    for c in ifs do
     if ok then ok <- isTrue c Y.env (eval c Y.env)
    if ok then
     (do let _ <- call (.builtin "list.append") [.ref D,<- eval elt Y.env])
    again (.compLoop (.ListComp elt [g0,⟨tg,iter,ifs,0⟩] scope cpos) 1 (.ref it) (.ref D) Y.env)):=by rfl
 rw[e];refine wpAny_bind (wpAny_standAt (wpAny_bind (thn h λr s1 h1=>?_)));cases r with
 |none=>exact Qm h1
 |some v=>
  refine wpAny_bind (thn h1 λ_ s2 h2=>?_);refine wpAny_bind (wpAny_mono h2 (λ_ s4 h4=>wpAny_bind (wpAny_mono h4 (λok s5 h5=>?_) λ_ _ f=>f.elim)) λ_ _ f=>f.elim);cases ok with
  |false=>exact Qm h5
  |true=>exact wpAny_bind (wpAny_bind (wpAny_mono h5 (λx s6 h6=>wpAny_bind (wpAny_mono h6 (λ_ s7 h7=>Qm (Qm h7)) λ_ _ f=>f.elim)) λ_ _ f=>f.elim))
def QlW(Y:Cx)(e:QR)(iter:QR)(D:Addr):Act:=λQ s=>wpAny (model Y.prog Y.w) Y.A (eval iter Y.env) (λx s1=>wpAny (model Y.prog Y.w) Y.A (pyIter x)
 (λitv s2=>codeAny (model Y.prog Y.w) Y.A (.compStart e 1 itv (.ref D) Y.env) (λr s3=>match r with | .ok _=>Q s3 | .error _=>False) s2) (λ_ _=>False) s1) (λ_ _=>False) s
def QsE(wi:TI)(g:TG)(tc:TT)(p:Addr)(te:TE):St->Hp->(Hp->Prop)->Prop:=λσ H k=>wi σ H λJ H1=>QeN J (bOf σ g tc (Qpg p te)) k H1
theorem QlQ{Y:Cx}{σ:St}{elt tg iter:QR}{ifs:List QR}{g0:QeH}{scope:YW}{cpos:Pos}{D:Addr}{wi:TI}{g:TG}{tc:TT}{te:TE}(hx:Y.xe=λ_ _=>False)(hc:Y.calm=true)
  (hi:PI Y tg iter wi)(hg:PG Y tg g)(ht:PTs Y ifs tc)(he:PE Y elt te):BodyOk Y σ (QlW Y (.ListComp elt [g0,⟨tg,iter,ifs,0⟩] scope cpos) iter D) (QsE wi g tc D te σ):=by
 intro pins s H k Q I h hQ;have hx':∀(v:Value)(s':Shared),Y.xe v s'->False:=λv s' z=>by rw[hx] at z;exact z
 refine wpAny_mono (hi pins s σ H _ I h) (λv s1 h1=>wpAny_mono h1 (λitv s2 h2=>?_) hx') hx';obtain⟨it,fp,tn,J,H2,e,I2,T,st2,f2,hW⟩:=h2;subst e;have loop:codeAny (model Y.prog Y.w) Y.A (.compLoop (.ListComp elt [g0,⟨tg,iter,ifs,0⟩] scope cpos) 1 (.ref it) (.ref D) Y.env) (λr s3=>match r with | .ok _=>Q s3 | .error _=>False) s2:=
  QdE (Y:=Y) (gens:=[g0,⟨tg,iter,ifs,0⟩]) (d:=1) hc T st2 f2 (λQ E s h=>QjO Q E s h) (λx u r=>QhB hx hg ht (λσ4=>Qir hx he) x u r) I2 hW λs' H' I' q=>hQ s' H' I' q
 exact QfV loop (T.self _ 0 _ _ _ st2 loop)
theorem QiE{Y:Cx}{elt tg iter tg2 iter2:QR}{ifs ifs2:List QR}{scope:YW}{cpos:Pos}{it D:Addr}(hs:∀x,foldedSetIterable iter2 Y.env x=pure x)(Q:PySem.Fin->Shared->Prop)(E:Value->Shared->Prop)(s:Shared)
  (h:wpAny (model Y.prog Y.w) Y.A (pyNext (.ref it)) (λr s1=>match r with
   |none=>Q (.done .next) s1
   |some v=>wpAny (model Y.prog Y.w) Y.A (letOwnedTupleGo tg (.ref it) v) (λ_ s2=>Qn8 Y tg ifs (QlW Y (.ListComp elt [⟨tg,iter,ifs,0⟩,⟨tg2,iter2,ifs2,0⟩] scope cpos) iter2 D) v (λs3=>Q (.again (.compLoop (.ListComp elt [⟨tg,iter,ifs,0⟩,⟨tg2,iter2,ifs2,0⟩] scope cpos) 0 (.ref it) (.ref D) Y.env)) s3) s2) E s1) E s) :
  wpAny (model Y.prog Y.w) Y.A (compTurn (.ListComp elt [⟨tg,iter,ifs,0⟩,⟨tg2,iter2,ifs2,0⟩] scope cpos) 0 (.ref it) (.ref D) Y.env) Q E s:=by
 have e:compTurn (.ListComp elt [⟨tg,iter,ifs,0⟩,⟨tg2,iter2,ifs2,0⟩] scope cpos) 0 (.ref it) (.ref D) Y.env=(do
   standAt iter.pos
   match <- pyNext (.ref it) with
   |none=>pure (.done .next)
   |some v=>
    letOwnedTupleGo tg (.ref it) v
    assign tg Y.env v
    let mut ok:=true
    for c in ifs do
     if ok then ok <- isTrue c Y.env (eval c Y.env)
    if ok then
     let x <- eval iter2 Y.env
     standAt iter2.pos
     let x <- foldedSetIterable iter2 Y.env x
     let _ <- runOwn (.compStart (.ListComp elt [⟨tg,iter,ifs,0⟩,⟨tg2,iter2,ifs2,0⟩] scope cpos) 1 (<- holding [x] (pyIter x)) (.ref D) Y.env) Y.env
    again (.compLoop (.ListComp elt [⟨tg,iter,ifs,0⟩,⟨tg2,iter2,ifs2,0⟩] scope cpos) 0 (.ref it) (.ref D) Y.env)):=by rfl
 rw[e];refine wpAny_bind (wpAny_standAt (wpAny_bind (thn h λr s1 h1=>?_)));cases r with
 |none=>exact Qm h1
 |some v=>
  refine wpAny_bind (thn h1 λ_ s2 h2=>?_);refine wpAny_bind (wpAny_mono h2 (λ_ s4 h4=>wpAny_bind (wpAny_mono h4 (λok s5 h5=>?_) λ_ _ f=>f.elim)) λ_ _ f=>f.elim);cases ok with
  |false=>exact Qm h5
  |true=>
   refine wpAny_bind (wpAny_mono h5 (λx s6 h6=>wpAny_bind (wpAny_standAt ?_)) λ_ _ f=>f.elim);rw[hs x];refine wpAny_bind (Qm (wpAny_bind (Yj (wpAny_mono h6 (λitv s7 h7=>?_) λ_ _ f=>f.elim))));refine wpAny_bind (wpAny_runOwn (h:=none) (QgH h7 λr s8 h8=>?_));cases r with
   |error z=>exact h8.elim
   |ok fl=>exact Qm h8
def Qot(cap:List (Option Nat))(wi:TI)(g:TG)(tc:TT)(wi2:TI)(g2:TG)(tc2:TT)(te:TE):TE:=λσ H Q=>wi σ H λJ H1=>∀p,H1 p=none->QeN J (bOf (QcP cap σ) g tc (QsE wi2 g2 tc2 p te)) (Q (.ref p)) (upd H1 p (.lst []))
theorem Qio{J:It}{σ:St}{g:TG}{tc:TT}{te:TE}{p:Addr}{H1:Hp}{Qn:Hp->Prop}(n:Nat)(hn:n<sizeLine)(F:Nat->Option V)(hp:H1 p=none)
  (hs:∀i H2,i<n->Same H1 H2->J.go i H2/\∀x H3,J.yld i H2 x H3->∀(kn:Hp->Prop)(kv:VK),(F i=none->∀H6,Same H2 H6->kn H6)->(∀v,F i=some v->∀H6,Same H2 H6->kv v H6) ->
   g x σ H3 λσ4 H4=>Wk σ σ4/\tc σ4 H4 λb H5=>if b=true then te σ4 H5 kv else kn H5)
  (hst:∀H2,Same H1 H2->J.stop n H2) (hq:∀H2,Same H1 H2->H2 p=some (.lst ((Qg n).filterMap F))->Qn H2) :
  QeN J (bOf σ g tc (Qpg p te)) Qn (upd H1 p (.lst [])):=by
 refine QbP n (λi H2=>Same H1 H2/\H2 p=some (.lst ((Qg i).filterMap F))) ⟨Jg hp,Jh⟩ (λi H2 hi ⟨s2,e2⟩=>?_) λH2 ⟨s2,e2⟩=>⟨hst H2 s2,hq H2 s2 e2⟩
 obtain⟨go,st⟩:=hs i H2 hi s2;refine⟨go,λx H3 y k hk=>?_⟩;have er:(Qg (i+1)).filterMap F=(Qg i).filterMap F++(F i).toList:=by
  rw[J6,YV];cases e:F i<;>simp[e]
 refine st x H3 y k (λv H6=>∃ys,H6 p=some (.lst ys)/\ys.length<sizeLine/\k (upd H6 p (.lst (ys++[v])))) (λe H6 s6=>?_) λv e H6 s6=>?_
 ·refine hk _ ⟨s2.trans s6,?_⟩;rw[er,e]
  simpa using s6 p _ e2
 ·have e6:=s6 p _ e2;refine⟨_,e6,?_,hk _ ⟨λb o q=>?_,?_⟩⟩
  ·have:((Qg i).filterMap F).length<=i:=by
    have:=Qbb F (Qg i)
    rwa [Qv] at this
   omega
  ·rw[JC (J4 q hp)];exact s6 b o (s2 b o q)
  ·rw[Jh,er,e];rfl
end L2
namespace Rk
open L2 Rd
def pairD(ij:Int×Int):Qb:=.tuple [.int ij.1,.int ij.2]
theorem Cs.dats{p:Addr}{H:Hp}:∀{ps:List V}{L:List (Int×Int)},Cs p H ps L->Dats H ps (L.map pairD)
 |_,_,.nil=>.nil
 |_,_,.cons ⟨d,_,e,h⟩ t=>by
  subst e;exact .cons (.tup h (.cons (.int _) (.cons (.int _) .nil))) (Cs.dats t)
theorem QnS(a b:Int×Int):QL (pairD a) (pairD b)=decide (a=b):=by
 have e:QL (pairD a) (pairD b)=((a.1 == b.1)&&((a.2 == b.2)&&true)):=by
  unfold pairD;simp[QL,Qa7]
 rw[e];obtain⟨a1,a2⟩:=a;obtain⟨b1,b2⟩:=b;by_cases h1:a1=b1<;>by_cases h2:a2=b2<;>simp[h1,h2]
theorem Qn7(L:List (Int×Int))(b:Int×Int):((L.map pairD).any λe=>QL e (pairD b))=decide (b∈L):=by
 rw[Qjr];induction L with
 |nil=>simp
 |cons a L ih=>
  rw[Yv,ih];show(QL (pairD a) (pairD b)||_)=_;rw[QnS];by_cases h:a=b
  ·simp[h]
  ·have h':¬b=a:=λz=>h z.symm
   simp[h,h']
theorem Qew(b:Int×Int):Zk (pairD b)=1:=by
 unfold pairD;simp[Zk,Ja]
end Rk
namespace Rr
section
variable{prog:Qz}{w:Jf}{A:Jb}{E:Value->Shared->Prop}{s:Shared}
end
end Rr
namespace L2
def Qtk(ta:TA):TE:=λσ H Q=>ta σ H λvs H1=>∃j,vs=[.int j]/\∀r H2,Same H1 H2->H1 r=none->H2 r=some (.rng 0 j)->Q (.ref r) H2
section
variable{X:Cx}
theorem Qh7{a:QR}{ta:TA}{p pos:Pos}(hg:Gl X "range")(hm:X.mg "range" = none)(ha:PA X [a] ta)(hs:starEach [a] X.env=[(false,eval a X.env)]:=by rfl):PE X (.Call (.Name "range" p) [a] [] pos) (Qtk ta):=by
 intro pins s σ H Q I h;refine Qbr (Qa0 I hg hm QvV ?_);refine Q5 (thn (ha pos pins s σ H _ I h) λus s1 ⟨vs,H1,I1,r1,q1⟩=>?_) hs rfl;obtain⟨j,e,q⟩:=q1;subst e;obtain⟨u,rfl,ru⟩:=vals1 r1;obtain⟨t,rfl⟩:=ru;refine call_range_1 ?_
 have hf:H1 s1.heap.objs.size=none:=I1.hok.fresh (Qh _);refine⟨.ref s1.heap.objs.size,upd H1 s1.heap.objs.size (.rng 0 j),I1.laid (t':=s1.toks+1+1) (λb u e=>Qc _ e) (Qh _) ⟨_,_,_,Qu _ rfl⟩,rfl,q _ _ (Jg hf) hf Jh⟩
theorem Qi5{acc:Array Value}{n:Nat}(h:ItemsOf (λi v=>∃t,v=Qa1 ((0:Int)+i*1) t) acc n):Vals ((Qg n).map λi=>V.int (i:Nat)) acc.toList:=by
 obtain⟨hs,hi⟩:=h;have key:∀(m:Nat)(l:List Value)(o:Nat),l.length=m->(∀i v,l[i]? = some v->∃t,v=Qa1 ((0:Int)+((o+i:Nat):Int)*1) t)->Vals ((Qfs o m).map λi=>V.int (i:Nat)) l:=by
  intro m;induction m with
  |zero=>intro l o hl _;cases l with
   |nil=>exact .nil
   |cons a b=>cases hl
  |succ m ih=>
   intro l o hl hv;cases l with
   |nil=>cases hl
   |cons a b=>
    rw[Qpq,JT];refine .cons ?_ (ih b (o+1) (by simpa using hl) λi v e=>?_)
    ·obtain⟨t,rfl⟩:=hv 0 a rfl;exact⟨t,by simp⟩
    ·obtain⟨t,rfl⟩:=hv (i+1) v (by simpa using e);exact⟨t,by congr 3;omega⟩
 rw[List.range_eq_range'];refine key n acc.toList 0 (by simpa using hs) λi v e=>?_
 have:=hi i v (by simpa using e)
 simpa using this
end
end L2
namespace Rs
open PySem.W
def sp{α:Type}(n:Nat)(c:Nat->Nat->Bool):KasT α->(α->Prop)->Prop
 |.ret a,Q=>Q a
 |.ask i j f,Q=>i<n/\j<n/\sp n c (f (c i j)) Q
theorem Y1{α:Type}{n:Nat}{c:Nat->Nat->Bool}{Q Q':α->Prop}(h:∀a,Q a->Q' a):∀{t:KasT α},sp n c t Q->sp n c t Q'
 |.ret a,q=>h a q
 |.ask i j f,q=>⟨q.1,q.2.1,Y1 h (t:=f (c i j)) q.2.2⟩
theorem Qcx{α β:Type}{n:Nat}{c:Nat->Nat->Bool}{f:α->KasT β}{Q:β->Prop}:∀{t:KasT α},sp n c t (λa=>sp n c (f a) Q)->sp n c (t.bind f) Q
 |.ret a,q=>q
 |.ask i j g,q=>⟨q.1,q.2.1,Qcx (t:=g (c i j)) q.2.2⟩
theorem QhN{α:Type}{n:Nat}{c:Nat->Nat->Bool}{cmp:Nat->Nat->(Bool->Shared->Prop)->Shared->Prop}{s:Shared}{Q:α->Shared->Prop}(hc:∀i j (C:Bool->Shared->Prop),i<n->j<n->C (c i j) s->cmp i j C s) :
  ∀{t:KasT α},sp n c t (λa=>Q a s)->t.kasWp cmp Q s
 |.ret a,q=>q
 |.ask i j f,q=>hc i j _ q.1 q.2.1 (QhN hc (t:=f (c i j)) q.2.2)
section
variable{n:Nat}{K:Nat->Int}
abbrev cK (K:Nat->Int) (i j:Nat):Bool:=decide (K i<K j)
structure Good (n:Nat) (p:Array Nat):Prop where
 perm:p.toList.Perm (Qg n)
theorem Good.size{p:Array Nat}(g:Good n p):p.size=n:=by
 have:=g.perm.length_eq;rw[Qv,JN] at this;exact this
def at_(p:Array Nat)(i:Nat):Nat:=p.getD i 0
theorem QgD{p:Array Nat}{i:Nat}(h:i<p.size):p[i]? = some (at_ p i):=by
 unfold at_;rw[Zf,JZ h];rfl
theorem Qn5{p q:Array Nat}{i j:Nat}(h:p[i]? = q[j]?):at_ p i=at_ q j:=by
 unfold at_;rw[Zf,Zf,h]
theorem Good.lt{p:Array Nat}(g:Good n p)(h0:0<n)(i:Nat):at_ p i<n:=by
 by_cases h:i<p.size
 ·have e:=QgD h;have m:at_ p i∈p.toList:=by
   have:=Array.mem_of_getElem? e;exact Qjv.mpr this
  exact Qw.mp (g.perm.mem_iff.mp m)
 ·unfold at_;rw[Zf,Array.getElem?_eq_none (by omega)];exact h0
theorem Good.inj{p:Array Nat}(g:Good n p){i j:Nat}(hi:i<n)(hj:j<n)(e:at_ p i=at_ p j):i=j:=by
 have nd:p.toList.Nodup:=g.perm.nodup_iff.mpr JK;have hs:=g.size;have hi':i<p.toList.length:=by rw[JN];omega
 have hj':j<p.toList.length:=by rw[JN];omega
 have ei:p.toList[i]=at_ p i:=by
  have:=QgD (p:=p) (i:=i) (by omega);rw[JZ (by omega)] at this;rw[Y6];exact Qy this
 have ej:p.toList[j]=at_ p j:=by
  have:=QgD (p:=p) (i:=j) (by omega);rw[JZ (by omega)] at this;rw[Y6];exact Qy this
 have pw:=Yf.mp nd;rcases QdX i j with h | h | h
 ·exact absurd (ei.trans (e.trans ej.symm)) (pw i j hi' hj' h)
 ·exact h
 ·exact absurd (ej.trans (e.symm.trans ei.symm)) (pw j i hj' hi' h)
def kk(K:Nat->Int)(p:Array Nat)(i:Nat):Int:=K (at_ p i)
def Adj(K:Nat->Int)(p:Array Nat)(m:Nat):Prop:=∀i,i+1<m->kk K p i<=kk K p (i+1)
def Dsc(K:Nat->Int)(p:Array Nat)(m:Nat):Prop:=∀i,i+1<m->kk K p (i+1)<kk K p i
theorem Adj.le{p:Array Nat}{m:Nat}(h:Adj K p m){i:Nat}:∀{j:Nat},i<=j->j<m->kk K p i<=kk K p j
 |0,hij,_=>by cases Nat.le_zero.mp hij;exact Int.le_refl _
 |j+1,hij,hj=>by
  by_cases e:i=j+1
  ·rw[e];exact Int.le_refl _
  ·exact Int.le_trans (h.le (i:=i) (j:=j) (by omega) (by omega)) (h j hj)
theorem QmI{p:Array Nat}(g:Good n p)(i j:Nat):Good n (kas_rev p i j):=⟨(QfA.mp (mirror_perm p i j _)).trans g.perm⟩
theorem Qoz{p:Array Nat}{m k:Nat}(hm:m<=p.size)(hk:k<m):at_ (kas_rev p 0 m) k=at_ p (m - 1 - k):=by
 refine Qn5 ?_
 have:=getElem?_mirror_all (xs:=p) (i:=0) (j:=m) hm k
 rw[if_pos ⟨Js _,hk⟩,Nat.zero_add] at this;exact this
theorem QpU{p:Array Nat}{m:Nat}(hm:m<=p.size)(d:Dsc K p m):Adj K (kas_rev p 0 m) m:=by
 intro i hi;unfold kk;rw[Qoz hm (by omega),Qoz hm hi];have:=d (m - 1 - (i+1)) (by omega);have e:m - 1 - (i+1)+1=m - 1 - i:=by omega
 rw[e] at this;exact Int.le_of_lt this
theorem QjZ{p:Array Nat}(g:Good n p)(h0:0<n):∀(f a:Nat),1<=a->Adj K p a ->
  sp n (cK K) (kas_asc p f a) (λm=>a<=m/\m<=a+f/\Adj K p m/\(m=a+f∨kk K p m<kk K p (m - 1)))
 |0,a,_,h=>⟨Qh _,Qh _,h,.inl rfl⟩
 |f+1,a,ha,h=>by
  refine⟨g.lt h0 a,g.lt h0 (a - 1),?_⟩;show sp n (cK K) (if decide (kk K p a<kk K p (a - 1))=true then .ret a else kas_asc p f (a+1)) _;by_cases e:kk K p a<kk K p (a - 1)
  ·rw[decide_eq_true e,if_pos rfl];exact⟨Qh _,QsO _ _,h,.inr e⟩
  ·rw[decide_eq_false e,if_neg (by simp)];refine Y1 ?_ (QjZ g h0 f (a+1) (by omega) ?_)
   ·rintro m ⟨h1,h2,h3,h4⟩;exact⟨by omega,by omega,h3,h4.imp (λq=>by omega) id⟩
   ·intro i hi;by_cases q:i+1<a
    ·exact h i q
    ·have e1:i=a - 1:=by omega
     have e2:i+1=a:=by omega
     rw[e2,e1];exact Int.not_lt.mp e
theorem Qr8(inj:∀i j,i<n->j<n->K i=K j->i=j){p:Array Nat}(g:Good n p){i j:Nat}(hi:i<n)(hj:j<n)(h:i≠j):kk K p i≠kk K p j:=
 λe=>h (g.inj hi hj (inj _ _ (g.lt (by omega) i) (g.lt (by omega) j) e))
theorem QjY(inj:∀i j,i<n->j<n->K i=K j->i=j){p:Array Nat}(g:Good n p)(h0:0<n):∀(f a:Nat),1<=a->a+f<=n->Dsc K p a ->
  sp n (cK K) (kas_desc f p a 0) (λr=>r.1=p/\r.2.2=0/\a<=r.2.1/\r.2.1<=a+f/\Dsc K p r.2.1)
 |0,a,_,_,h=>⟨rfl,rfl,Qh _,Qh _,h⟩
 |f+1,a,ha,haf,h=>by
  refine⟨g.lt h0 a,g.lt h0 (a - 1),?_⟩;show sp n (cK K) (if decide (kk K p a<kk K p (a - 1))=true then(if 0 > 0 then kas_desc f (kas_rev p (a - (0+1)) a) (a+1) 0 else kas_desc f p (a+1) 0) else _) _;by_cases e:kk K p a<kk K p (a - 1)
  ·rw[decide_eq_true e,if_pos rfl,if_neg (by omega)];refine Y1 ?_ (QjY inj g h0 f (a+1) (by omega) (by omega) ?_)
   ·rintro r ⟨h1,h2,h3,h4,h5⟩;exact⟨h1,h2,by omega,by omega,h5⟩
   ·intro i hi;by_cases q:i+1<a
    ·exact h i q
    ·have e1:i=a - 1:=by omega
     have e2:i+1=a:=by omega
     rw[e2,e1];exact e
  ·rw[decide_eq_false e,if_neg (by simp)];refine⟨g.lt h0 (a - 1),g.lt h0 a,?_⟩;show sp n (cK K) (if decide (kk K p (a - 1)<kk K p a)=true then .ret (p,a,0) else _) _;have ne:=Qr8 (K:=K) inj g (i:=a - 1) (j:=a) (by omega) (by omega) (by omega);rw[decide_eq_true (by omega),if_pos rfl];exact⟨rfl,rfl,Qh _,QsO _ _,h⟩
def Run(K:Nat->Int)(n:Nat)(r:Nat×Array Nat):Prop:=Good n r.2/\1<=r.1/\r.1<=n/\Adj K r.2 r.1
theorem Qmv{p:Array Nat}(g:Good n p){m:Nat}(h1:1<=m)(hm:m<=n)(d:Dsc K p m):sp n (cK K) (kas_tail3 m n p) (Run K n):=by
 refine Qcx ?_
 have hs:=g.size;have g':=QmI g 0 m;refine Y1 ?_ (QjZ g' (by omega) (n - m) m h1 (QpU (by omega) d))
 rintro k ⟨a,b,c,_⟩;exact⟨g',by omega,by omega,c⟩
theorem QgX(inj:∀i j,i<n->j<n->K i=K j->i=j){p:Array Nat}(g:Good n p){m:Nat}(hm:m+1<=n)(d:Dsc K p (m+1)):sp n (cK K) (kas_descPart m n p) (Run K n):=by
 refine Qcx ?_
 refine Y1 ?_ (QjY inj g (by omega) (n - (m+1)) (m+1) (by omega) (by omega) d)
 rintro⟨p',k,q⟩ ⟨e1,e2,h3,h4,h5⟩;have e1:p'=p:=e1;have e2:q=0:=e2;subst e1 e2;show sp n (cK K) (if 0 > 0 then _ else kas_tail3 k n p') _;rw[if_neg (by omega)];have h3:m+1<=k:=h3;have h4:k<=m+1+(n - (m+1)):=h4;exact Qmv g (by omega) (by omega) h5
theorem Qmw(inj:∀i j,i<n->j<n->K i=K j->i=j){p:Array Nat}(g:Good n p)(h0:0<n):sp n (cK K) (kas_count n p) (Run K n):=by
 refine Qcx ?_
 refine Y1 ?_ (QjZ g h0 (n - 1) 1 (Qh _) (λi hi=>by omega))
 rintro m ⟨h1,h2,h3,h4⟩;show sp n (cK K) (if(m == n)=true then .ret (m,p) else if m > 1 then _ else kas_descPart m n p) _;by_cases e:m=n
 ·rw[if_pos (beq_iff_eq.mpr e)];exact⟨g,h1,by omega,h3⟩
 ·rw[if_neg (λq=>e (beq_iff_eq.mp q))];by_cases e2:m > 1
  ·rw[if_pos e2];refine⟨g.lt h0 0,g.lt h0 (m - 1),?_⟩;show sp n (cK K) (if decide (kk K p 0<kk K p (m - 1))=true then .ret (m,p) else _) _;have le:=h3.le (i:=0) (j:=m - 1) (by omega) (by omega);have ne:=Qr8 (K:=K) inj g (i:=0) (j:=m - 1) (by omega) (by omega) (by omega);rw[decide_eq_true (by omega),if_pos rfl];exact⟨g,h1,by omega,h3⟩
  ·rw[if_neg e2];have em:m=1:=by omega
   subst em;refine QgX inj g (by omega) λi hi=>?_
   have ei:i=0:=by omega
   subst ei;rcases h4 with q | q
   ·omega
   ·exact q
theorem QeP{p:Array Nat}(g:Good n p)(h0:0<n){k:Nat}(A:Adj K p k):∀(f l r:Nat),l<=r->r<=k->r - l<=f->(∀i,i<l->kk K p i<=kk K p k)->(∀i,r<=i->i<k->kk K p k<kk K p i) ->
  sp n (cK K) (kas_place p k f l r) (λm=>m<=k/\(∀i,i<m->kk K p i<=kk K p k)/\∀i,m<=i->i<k->kk K p k<kk K p i)
 |0,l,r,h1,h2,h3,a,b=>⟨by omega,a,λi hi hk=>b i (by omega) hk⟩
 |f+1,l,r,h1,h2,h3,a,b=>by
  show sp n (cK K) (if l≥r then .ret l else _) _;by_cases e:l≥r
  ·rw[if_pos e];exact⟨by omega,a,λi hi hk=>b i (by omega) hk⟩
  ·rw[if_neg e];refine⟨g.lt h0 k,g.lt h0 ((l+r) / 2),?_⟩;show sp n (cK K) (if decide (kk K p k<kk K p ((l+r) / 2))=true then kas_place p k f l ((l+r) / 2) else kas_place p k f ((l+r) / 2+1) r) _;by_cases q:kk K p k<kk K p ((l+r) / 2)
   ·rw[decide_eq_true q,if_pos rfl];refine QeP g h0 A f l ((l+r) / 2) (by omega) (by omega) (by omega) a λi hi hk=>?_
    exact Int.lt_of_lt_of_le q (A.le hi hk)
   ·rw[decide_eq_false q,if_neg (by simp)];refine QeP g h0 A f ((l+r) / 2+1) r (by omega) h2 (by omega) (λi hi=>?_) b;exact Int.le_trans (A.le (i:=i) (j:=(l+r) / 2) (by omega) (by omega)) (Int.not_lt.mp q)
theorem Qov(h0:0<n):∀(f k:Nat){p:Array Nat},Good n p->k+f<=n->Adj K p k->sp n (cK K) (kas_bin f p k) (λp'=>Good n p'/\Adj K p' (k+f))
 |0,k,p,g,_,A=>⟨g,A⟩
 |f+1,k,p,g,hk,A=>by
  refine Qcx ?_
  refine Y1 ?_ (QeP g h0 A k 0 k (Js _) (Qh _) (by omega) (λi hi=>by omega) (λi hi hk=>by omega))
  rintro l ⟨hl,lo,hi⟩;have hs:=g.size;have bb:∀j,at_ (bubble p k (k - l)) j=if j=l then at_ p k else if l<j/\j<=k then at_ p (j - 1) else at_ p j:=by
   intro j;have:=getElem?_bubble (xs:=p) (src:=k) (by omega) (k - l) (by omega) j
   have e:k - (k - l)=l:=by omega
   rw[e] at this;split
   ·rename_i q;rw[if_pos q] at this;exact Qn5 this
   ·rename_i q
    rw[if_neg q] at this;split
    ·rename_i q2;rw[if_pos q2] at this;exact Qn5 this
    ·rename_i q2;rw[if_neg q2] at this;exact Qn5 this
  refine Y1 ?_ (Qov h0 f (k+1) (p:=bubble p k (k - l)) ⟨(QfA.mp (bubble_perm p k (k - l))).trans g.perm⟩ (by omega) ?_)
  ·rintro p' ⟨a,b⟩;exact⟨a,by rw[show k+(f+1)=k+1+f by omega];exact b⟩
  ·intro i hik;unfold kk;rw[bb,bb];by_cases c1:i+1<l
   ·rw[if_neg (by omega),if_neg (by omega),if_neg (by omega),if_neg (by omega)];exact A i (by omega)
   ·by_cases c2:i+1=l
    ·rw[if_neg (by omega),if_neg (by omega),if_pos c2];exact lo i (by omega)
    ·by_cases c3:i=l
     ·rw[if_pos c3,if_neg (by omega),if_pos ⟨by omega,by omega⟩];exact Int.le_of_lt (hi (i+1 - 1) (by omega) (by omega))
     ·rw[if_neg c3,if_pos ⟨by omega,by omega⟩,if_neg (by omega),if_pos ⟨by omega,by omega⟩];have:=A (i - 1) (by omega);rw[show i - 1+1=i+1 - 1 by omega] at this;exact this
theorem QpK(inj:∀i j,i<n->j<n->K i=K j->i=j)(h0:0<n):sp n (cK K) (kas_sort n) (λp=>Good n p/\Adj K p n):=by
 have g:Good n (ZA (Qg n)):=⟨QdZ _⟩;refine Qcx ?_
 refine Y1 ?_ (Qmw inj g h0)
 rintro⟨m,p⟩ ⟨g',h1,h2,A⟩;show sp n (cK K) (if m<n then kas_bin (n - max m 1) p (max m 1) else .ret p) _;have e:max m 1=m:=by have:1<=m:=h1;omega
 rw[e];by_cases q:m<n
 ·rw[if_pos q];refine Y1 ?_ (Qov h0 (n - m) m g' (by omega) A)
  rintro p' ⟨a,b⟩;exact⟨a,by rw[show m+(n - m)=n by omega] at b;exact b⟩
 ·rw[if_neg q];have h2:m<=n:=h2;have e2:m=n:=by omega
  subst e2;exact⟨g',A⟩
end
end Rs
namespace Rs
open PySem.W PySem.Calls
section
variable{prog:Qz}{w:Jf}{A:Jb}{E:Value->Shared->Prop}{s:Shared}
def Kept(a:Addr)(h h':JR):Prop:=∀b x,b≠a->h.get? b=some x->h'.get? b=some x
theorem QeK{h:JR}{a:Addr}(f:Obj->Obj):Kept a h (h.update a f):=λb x hb e=>(Heap.get?_update_ne _ _ _ _ hb).trans e
theorem Qf6{h:JR}{a:Addr}(o:Obj):Kept a h (h.push o):=λb x _ e=>Qc _ e
theorem Kept.trans{a:Addr}{h h1 h2:JR}(k:Kept a h h1)(k':Kept a h1 h2):Kept a h h2:=λb x hb e=>k' b x hb (k b x hb e)
theorem Qke(vs:List Value):(Qg vs.length).map (λi=>vs.getD i Jz)=vs:=by
 apply Z3
 intro i;rw[Qr];by_cases h:i<vs.length
 ·rw[Q9 h,Qf h];show some (vs.getD i Jz)=_;rw[Qi,Qf h];rfl
 ·rw[Q2 (by simpa using h),Q2 (by omega)];rfl
theorem Qd4{a:Addr}{vs:List Value}{n:Nat}{P:PySem.Fin->Shared->Prop}(ho:s.heap.get? a=some (seqObj "list" vs.toArray n))(h64:vs.length<64)(K:Nat->Int)(κ:Qbs)
  (inj:∀i j,i<vs.length->j<vs.length->K i=K j->i=j)
  (hkind:2<=vs.length->∀h':JR,Kept a s.heap h'->∀(Q':Qbs->Shared->Prop)(E':Value->Shared->Prop),Q' κ { s with heap:=h' }->wpAny (model prog w) A (keyKind' vs.toArray) Q' E' { s with heap:=h' })
  (hcmp:∀h':JR,Kept a s.heap h'->∀(i j:Nat)(C:Bool->Shared->Prop),i<vs.length->j<vs.length->C (decide (K i<K j)) { s with heap:=h' }->wpAny (model prog w) A (keyLt' κ (vs.getD i Jz) (vs.getD j Jz)) C (λ_ _=>False) { s with heap:=h' })
  (h:∀p:Array Nat,Good vs.length p->Adj K p vs.length->∀(h':JR)(e:Nat),Kept a s.heap h'->h'.get? a=some (seqObj "list" (ZA (p.toList.map λi=>vs.getD i Jz)) e)->P (.done (.ret .none)) { s with heap:=h' }) :
  wpAny (model prog w) A (QcY.«list.sort» ⟨[.ref a],[]⟩) P E s:=by
 have ha:a<s.heap.objs.size:=Qk ho;obtain⟨e1,ho1⟩:∃e1,(s.heap.update a (Z6 λ_=>(#[]:Array Value))).get? a=some (seqObj "list" #[] e1):=⟨_,get?_update_seq ho λ_=>#[]⟩
 have K3:Kept a s.heap (((s.heap.update a (Z6 λ_=>(#[]:Array Value))).push (seqObj "tuple" vs.toArray 0)).push (seqObj "list" #[] 0)):=(QeK _).trans ((Qf6 _).trans (Qf6 _));have ho6:(((s.heap.update a (Z6 λ_=>(#[]:Array Value))).push (seqObj "tuple" vs.toArray 0)).push (seqObj "list" #[] 0)).get? a=some (seqObj "list" #[] e1):=Qc _ (Qc _ ho1);rw[list_sort_plain];refine wpAny_bind (listItems_at ho rfl ?_);refine wpAny_bind (Qmb ho rfl ?_ (by rw[Qj,Y7];omega) (Js _));refine wpAny_bind (QsX ho1 rfl ?_);refine wpAny_bind (wpAny_newTuple ?_ (by show vs.length<=_;rw[Y7];omega));refine wpAny_bind (wpAny_newList ?_ (Js _));refine Yj ?_
 show wpAny (model prog w) A _ P E { s with heap:=((s.heap.update a (Z6 λ_=>(#[]:Array Value))).push (seqObj "tuple" vs.toArray 0)).push (seqObj "list" #[] 0) }
 dsimp only
 generalize (((s.heap.update a (Z6 λ_=>(#[]:Array Value))).push (seqObj "tuple" vs.toArray 0)).push (seqObj "list" #[] 0))=h3 at K3 ho6 ⊢;have fin:∀p:Array Nat,Good vs.length p->Adj K p vs.length->∀st':SortSt,(arrOf st').map (·.2)=ZA (p.toList.map λi=>vs.getD i Jz)->failedOf st'=none ->
   ∃e2,(h3.update a (Z6 λ_=>ZA (p.toList.map λi=>vs.getD i Jz))).get? a=some (seqObj "list" (ZA (p.toList.map λi=>vs.getD i Jz)) e2):=λp _ _ _ _ _=>⟨_,get?_update_seq ho6 λ_=>_⟩
 by_cases h2:vs.toArray.size<2
 ·rw[if_pos h2,if_pos h2];refine wpAny_bind (Qm ?_);rw[StateT.run_pure];refine wpAny_bind (Qm ?_)
  dsimp only
  have gg:Good vs.length (ZA (Qg vs.length)):=⟨QdZ _⟩;have aa:Adj K (ZA (Qg vs.length)) vs.length:=λi hi=>by rw[Qj] at h2;omega
  have out:(arrOf (SortSt.mk' general' (vs.toArray.zip vs.toArray) #[] 7 none)).map (·.2)=ZA ((ZA (Qg vs.length)).toList.map λi=>vs.getD i Jz):=by
   show(vs.toArray.zip vs.toArray).map (·.2)=_;rw[QcQ,Qke];apply Qop.mp
   rw[Array.toList_map,Array.toList_zip];show(vs.zip vs).map (·.2)=vs;exact List.map_snd_zip (Qh _)
  obtain⟨e2,he2⟩:=fin _ gg aa _ out rfl;rw[out];refine wpAny_bind (QsX ho6 rfl ?_);refine wpAny_bind (Qmb ho6 rfl ?_ (Js _) (by rw[Qj,Qe,QcQ,Qv,Y7];omega));simp only[bne_self_eq_false,QaI,if_false];exact Qm (h _ gg aa _ e2 (K3.trans (QeK _)) he2)
 ·rw[if_neg h2,if_neg h2];have h2':2<=vs.length:=by rw[Qj] at h2;omega
  refine wpAny_bind (hkind h2' h3 K3 _ _ ?_);refine wpAny_bind (wpAny_mono (kat_run (Q:=λst' s'=>∃p:Array Nat,Good vs.length p/\Adj K p vs.length/\arrOf st'=p.map (kas_item (vs.toArray.zip vs.toArray))/\failedOf st'=none/\s'={ s with heap:=h3 })
   (G:=λp s'=>Good vs.length p/\Adj K p vs.length/\s'={ s with heap:=h3 }) rfl h2' h64 (λp' st' s' a1 a2 a3 a4=>⟨p',a4.1,a4.2.1,a2,a3,a4.2.2⟩)
   (QhN (c:=cK K) (λi j C hi hj hC=>hcmp h3 K3 i j C hi hj hC) (Y1 (λp q=>⟨q.1,q.2,rfl⟩) (QpK inj (by omega))))) ?_ λ_ _ e=>e)
  rintro⟨⟨⟩,st'⟩ s' ⟨p,gg,aa,har,hf,rfl⟩
  dsimp only
  have out:=kat_snds (ks:=vs) rfl har;obtain⟨e2,he2⟩:=fin p gg aa st' out hf;rw[out];refine wpAny_bind (QsX ho6 rfl ?_);refine wpAny_bind (Qmb ho6 rfl ?_ (Js _) (by rw[Qj,Qe,JN,gg.size,Y7];omega));rw[hf];simp only[bne_self_eq_false,QaI,if_false];exact Qm (h p gg aa _ e2 (K3.trans (QeK _)) he2)
theorem Qbh{Q:Value->Shared->Prop}{l:Addr}{T:String}{o:Obj}{vs:List Value}{n:Nat}(hT:T = "list" ∨ T = "tuple")(ho:s.heap.get? l=some o)(hc:o.cls=.type T)(hd:o.data=.seq vs.toArray n)(h64:vs.length<64)
  (h:∀h':JR,(∀b x,s.heap.get? b=some x->h'.get? b=some x)->∀(P:PySem.Fin->Shared->Prop)(E':Value->Shared->Prop),(∀s2,Q (.ref h'.objs.size) s2->P (.done (.ret .none)) s2) ->
   wpAny (model prog w) A.in1.in1 (QcY.«list.sort» ⟨[.ref h'.objs.size],[]⟩) P E' { s with heap:=h'.push (seqObj "list" vs.toArray 0) }) :
  wpAny (model prog w) A (call (.builtin "sorted") [.ref l]) Q E s:=by
 refine Calls.call_function_entry kind_sorted plain_sorted entry_sorted (args_sorted1 _) ?_
 unfold QcY.«sorted»;refine wpAny_bind (m:=checkCount "sorted" 1 1 _) (Qm ?_);refine wpAny_bind (wpAny_collect_seq (items:=vs.toArray) l hT ho hc hd (λh' kp=>?_) (by rw[Qj,Y7];omega));refine wpAny_bind (wpAny_newList ?_ (by rw[QcQ,Y7];omega));have hoL:(h'.push (seqObj "list" vs.toArray 0)).get? h'.objs.size=some (seqObj "list" vs.toArray 0):=Qu _ rfl;show wpAny _ _ _ _ _ { s with heap:=h'.push (seqObj "list" vs.toArray 0) };refine wpAny_bind (Yj (Zo slot_list_sort ⟨_,hoL,rfl⟩ entry_list_sort ?body (args_list_sort _)));exact h h' kp _ _ λs2 hq=>⟨_,rfl,Qm ⟨_,rfl,hq⟩⟩
end
structure PairV (h:JR) (v:Value) (ij:Int×Int):Prop where
 it:∃(a:Addr)(o:Obj)(n:Nat)(t u:Tok),v=.ref a/\h.get? a=some o/\o.cls=.type "tuple" /\ o.data=.seq #[.int ij.1 t,.int ij.2 u] n
theorem PairV.keep{h h':JR}{v:Value}{ij:Int×Int}(q:PairV h v ij)(k:∀b x,h.get? b=some x->h'.get? b=some x):PairV h' v ij:=by
 obtain⟨a,o,n,t,u,e,g,c,d⟩:=q.it;exact⟨a,o,n,t,u,e,k _ _ g,c,d⟩
inductive PairsV (h:JR):List Value->List (Int×Int)->Prop
 |nil:PairsV h [] []
 |cons {v:Value} {vs:List Value} {ij:Int×Int} {L:List (Int×Int)}:PairV h v ij->PairsV h vs L->PairsV h (v::vs) (ij::L)
theorem PairsV.keep{h h':JR}(k:∀b x,h.get? b=some x->h'.get? b=some x):∀{vs:List Value}{L:List (Int×Int)},PairsV h vs L->PairsV h' vs L
 |_,_,.nil=>.nil
 |_,_,.cons q r=>.cons (q.keep k) (r.keep k)
theorem PairsV.len{h:JR}:∀{vs:List Value}{L:List (Int×Int)},PairsV h vs L->vs.length=L.length
 |_,_,.nil=>rfl
 |_,_,.cons _ r=>by rw[QZ,QZ,r.len]
theorem PairsV.at_{h:JR}:∀{vs:List Value}{L:List (Int×Int)},PairsV h vs L->∀i,i<vs.length->PairV h (vs.getD i Jz) (L.getD i (0,0))
 |_,_,.nil,i,hi=>by simp at hi
 |_,_,.cons q r,0,hi=>q
 |_,_,.cons q r,i+1,hi=>by
  have:=r.at_ i (by simpa using hi)
  simpa using this
theorem PairsV.firsts{h:JR}:∀{vs:List Value}{L:List (Int×Int)},PairsV h vs L->∃fs,KatTups h vs fs/\fs.length=vs.length/\∀v∈fs,∃i t,v=Qa1 i t
 |_,_,.nil=>⟨[],.nil,rfl,λv hv=>nomatch hv⟩
 |_,_,.cons q r=>by
  obtain⟨fs,k,l,f⟩:=r.firsts;obtain⟨a,o,n,t,u,e,g,c,d⟩:=q.it;subst e;refine⟨_::fs,KatTups.cons g c d rfl k,by rw[QZ,QZ,l],λv hv=>?_⟩;rcases Qq.mp hv with z | z
  ·exact⟨_,_,z⟩
  ·exact f v z
def code(ij:Int×Int):Int:=64*ij.1+ij.2
section
variable{prog:Qz}{w:Jf}{A:Jb}{E:Value->Shared->Prop}{s:Shared}
theorem Qst{a b:Int×Int}(ha:0<=a.2/\a.2<64)(hb:0<=b.2/\b.2<64):decide (code a<code b)=if a.1=b.1 then(if a.2=b.2 then false else decide (a.2<b.2)) else decide (a.1<b.1):=by
 unfold code;split
 ·split
  ·exact decide_eq_false (by omega)
  ·by_cases q:a.2<b.2
   ·rw[decide_eq_true q];exact decide_eq_true (by omega)
   ·rw[decide_eq_false q];exact decide_eq_false (by omega)
 ·by_cases q:a.1<b.1
  ·rw[decide_eq_true q];exact decide_eq_true (by omega)
  ·rw[decide_eq_false q];exact decide_eq_false (by omega)
theorem QrE{v v':Value}{a b:Int×Int}{C:Bool->Shared->Prop}(pa:PairV s.heap v a)(pb:PairV s.heap v' b)(ha:0<=a.2/\a.2<64)(hb:0<=b.2/\b.2<64)(h:C (decide (code a<code b)) s) :
  wpAny (model prog w) A (keyLt' (tuples' true) v v') C E s:=by
 obtain⟨x,ox,n,t,u,rfl,gx,cx,dx⟩:=pa.it;obtain⟨y,oy,m,t',u',rfl,gy,cy,dy⟩:=pb.it;rw[Qst ha hb] at h;refine kat_lt gx dx gy dy ?_
 show KatLex prog w A true false C [(.int a.1 t,.int b.1 t'),(.int a.2 u,.int b.2 u')] 0 s;refine kat_cons (QgO ?_);by_cases e:a.1=b.1
 ·rw[if_pos e] at h;rw[show(a.1 == b.1)=true from beq_iff_eq.mpr e];refine kat_yes (kat_cons (QgO ?_));by_cases e2:a.2=b.2
  ·rw[if_pos e2] at h;rw[show(a.2 == b.2)=true from beq_iff_eq.mpr e2];exact kat_yes (kat_nil h)
  ·rw[if_neg e2] at h;rw[show(a.2 == b.2)=false from beq_eq_false_iff_ne.mpr e2];exact kat_no (kat_one _ _ (lt_int h))
 ·rw[if_neg e] at h;rw[show(a.1 == b.1)=false from beq_eq_false_iff_ne.mpr e];exact kat_no (oneLt_int h)
theorem QkH{vs:List Value}{L:List (Int×Int)}{Q:Qbs->Shared->Prop}(r:PairsV s.heap vs L)(h2:2<=vs.length)(h:Q (tuples' true) s):wpAny (model prog w) A (keyKind' vs.toArray) Q E s:=by
 obtain⟨fs,k,l,f⟩:=r.firsts;refine kat_kind (T:=.type "int") k (by omega) (λv hv=>?_) (by decide +kernel) ?_
 ·obtain⟨i,t,rfl⟩:=f v hv;exact Looks.of_pure rfl
 ·rw[show(QbV "int" != QbV "tuple")=true by decide +kernel];exact h
theorem Qdt{a:Addr}{vs:List Value}{L:List (Int×Int)}{n:Nat}{P:PySem.Fin->Shared->Prop}(ho:s.heap.get? a=some (seqObj "list" vs.toArray n))(h64:vs.length<64)(r:∀h',Kept a s.heap h'->PairsV h' vs L)(nd:L.Nodup)(hb:∀ij∈L,0<=ij.2/\ij.2<64)
  (h:∀p:Array Nat,Good vs.length p->Adj (λi=>code (L.getD i (0,0))) p vs.length->∀(h':JR)(e:Nat),Kept a s.heap h'->h'.get? a=some (seqObj "list" (ZA (p.toList.map λi=>vs.getD i Jz)) e)->P (.done (.ret .none)) { s with heap:=h' }) :
  wpAny (model prog w) A (QcY.«list.sort» ⟨[.ref a],[]⟩) P E s:=by
 have hl:vs.length=L.length:=(r s.heap (λb x _ e=>e)).len;have hb':∀i,i<vs.length->0<=(L.getD i (0,0)).2/\(L.getD i (0,0)).2<64:=λi hi=>by
  rw[Qi,Qf (by omega)];exact hb _ (ZJ _)
 refine Qd4 ho h64 (λi=>code (L.getD i (0,0))) (tuples' true) (λi j hi hj e=>?_) (λh2 h' k Q' E' q=>QkH (s:={ s with heap:=h' }) (r h' k) h2 q) (λh' k i j C hi hj q=>QrE (s:={ s with heap:=h' }) ((r h' k).at_ i hi) ((r h' k).at_ j hj) (hb' i hi) (hb' j hj) q) h;have bi:=hb' i hi;have bj:=hb' j hj;have e:code (L.getD i (0,0))=code (L.getD j (0,0)):=e;unfold code at e;have e':L.getD i (0,0)=L.getD j (0,0):=QeC (by omega) (by omega);rw[Qi,Qi,Qf (by omega),Qf (by omega)] at e';have pw:=Yf.mp nd;rcases QdX i j with q | q | q
 ·exact absurd e' (pw i j (by omega) (by omega) q)
 ·exact q
 ·exact absurd e'.symm (pw j i (by omega) (by omega) q)
end
theorem Qlg{α:Type}{L:List α}{d:α}{p:Array Nat}(g:Good L.length p):(p.toList.map λi=>L.getD i d).Perm L:=by
 have e:(Qg L.length).map (λi=>L.getD i d)=L:=by
  apply Z3
  intro i;rw[Qr];by_cases h:i<L.length
  ·rw[Q9 h,Qf h];show some (L.getD i d)=_;rw[Qi,Qf h];rfl
  ·rw[Q2 (by simpa using h),Q2 (by omega)];rfl
 have:=g.perm.map λi=>L.getD i d
 rwa [e] at this
theorem Qlf{L:List (Int×Int)}{p:Array Nat}(g:Good L.length p)(ad:Adj (λi=>code (L.getD i (0,0))) p L.length)(inj:∀i j,i<L.length->j<L.length->code (L.getD i (0,0))=code (L.getD j (0,0))->i=j) :
  (p.toList.map λi=>L.getD i (0,0)).Pairwise λa b=>code a<code b:=by
 rw[Yf];intro i j hi hj hij;rw[Qe,JN] at hi hj;have hs:=g.size;rw[Qpr,Qpr,Y6,Y6];have ei:p[i]=at_ p i:=by have:=QgD (p:=p) (i:=i) (by omega);rw[JZ (by omega)] at this;exact Qy this
 have ej:p[j]=at_ p j:=by have:=QgD (p:=p) (i:=j) (by omega);rw[JZ (by omega)] at this;exact Qy this
 rw[ei,ej];have le:=ad.le (i:=i) (j:=j) (by omega) (by omega);have ne:=Qr8 (K:=λi=>code (L.getD i (0,0))) inj g (i:=i) (j:=j) (by omega) (by omega) (by omega);have le:code (L.getD (at_ p i) (0,0))<=code (L.getD (at_ p j) (0,0)):=le;have ne:code (L.getD (at_ p i) (0,0))≠code (L.getD (at_ p j) (0,0)):=ne;omega
end Rs
namespace L2
open _root_.Rd _root_.Rk _root_.Rs
section
variable{X:Cx}
theorem Qf9{P:Qz}{w:Jf}{H:Hp}{h:JR}(ok:HOk P w H h):∀{xs:List V}{L:List (Int×Int)}{vs:List Value},Dats H xs (L.map Rk.pairD)->Vals xs vs->PairsV h vs L
 |_,[],vs,.nil,r=>by cases r;exact .nil
 |_,ij::L,vs,.cons (x:=x) (xs:=xs) q qs,r=>by
  cases r with
  |cons r rs=>
   refine .cons ?_ (Qf9 ok qs rs)
   cases q with
   |@tup a ys ds e q2=>
    cases r;obtain⟨_,its,rv,o,ho,hc,_,n,hd⟩:=ok a _ e;cases q2 with
    |cons q3 q4=>
     cases q4 with
     |cons q5 q6=>
      cases q6;cases q3;cases q5;cases rv with
      |cons r1 r2=>
       cases r2 with
       |cons r3 r4=>
        cases r4;obtain⟨t,rfl⟩:=r1;obtain⟨u,rfl⟩:=r3;exact⟨_,o,n,t,u,rfl,ho,hc,hd⟩
theorem Qlv{H:Hp}:∀{xs:List V}{L:List (Int×Int)},Dats H xs (L.map Rk.pairD)->∀i,i<xs.length->Dat H (xs.getD i .non) (Rk.pairD (L.getD i (0,0)))
 |_,[],.nil,i,hi=>by simp at hi
 |_,ij::L,.cons q qs,0,hi=>q
 |_,ij::L,.cons q qs,i+1,hi=>by
  have:=Qlv (L:=L) qs i (by simpa using hi)
  simpa using this
theorem QjL:∀{xs:List V}{vs:List Value},Vals xs vs->∀i,i<xs.length->RelV (xs.getD i .non) (vs.getD i Jz)
 |_,_,.nil,i,hi=>by simp at hi
 |_,_,.cons q qs,0,hi=>q
 |_,_,.cons q qs,i+1,hi=>by
  have:=QjL qs i (by simpa using hi)
  simpa using this
theorem Qij{H:Hp}{f:Nat->V}{g:Nat->Int×Int}:∀{is:List Nat},(∀i∈is,Dat H (f i) (Rk.pairD (g i)))->Dats H (is.map f) ((is.map g).map Rk.pairD)
 |[],_=>.nil
 |i::is,h=>.cons (h i (.head _)) (Qij λj hj=>h j (.tail _ hj))
theorem QhO{f:Nat->V}{g:Nat->Value}:∀{is:List Nat},(∀i∈is,RelV (f i) (g i))->Vals (is.map f) (is.map g)
 |[],_=>.nil
 |i::is,h=>.cons (h i (.head _)) (QhO λj hj=>h j (.tail _ hj))
def Qkh:List V->Hp->VK->Prop:=λxs H Q=>∃(l:Addr)(vs:List V)(L:List (Int×Int)),xs=[.ref l]/\H l=some (.lst vs)/\Dats H vs (L.map Rk.pairD)/\L.Nodup/\L.length<64/\(∀ij∈L,0<=ij.2/\ij.2<64) /\
 ∀(t:Addr)(ys:List V)(M:List (Int×Int))(H2:Hp),Same H H2->H t=none->H2 t=some (.lst ys)->Dats H2 ys (M.map Rk.pairD)->M.Perm L->M.Pairwise (λa b=>Rs.code a<Rs.code b)->Q (.ref t) H2
theorem Qje:CallR X (.builtin "sorted") Qkh:=by
 intro pins s σ H xs us Q I r h;obtain⟨l,vs,L,rfl,hl,ds,nd,h64,hb,q⟩:=h;obtain⟨u,rfl,ru⟩:=vals1 r;cases ru;obtain⟨hz,its,n,rv,ho⟩:=I.hok l _ hl;have pv:=Qf9 I.hok ds rv;have lv:=ds.length;rw[Qe] at lv;have li:=rv.length;have lp:=pv.len;refine Qbh (.inl rfl) ho rfl rfl (by omega) λh' kp P E' hP=>?_
 refine Qdt (s:={ s with heap:=h'.push (seqObj "list" its.toArray 0) }) (vs:=its) (L:=L) (Qu _ rfl) (by omega) (λh2 k2=>?_) nd hb λp g ad h2 e k2 e2=>hP _ ?_
 ·exact(pv.keep kp).keep λb x e=>k2 b x (QC (Qk e)) (Qc _ e)
 ·have I1:Inv X pins σ H { s with heap:=h' }:=I.kept (t':=s.toks) kp;have hf:H h'.objs.size=none:=I1.hok.fresh (Qh _);have hp:∀i∈p.toList,i<vs.length:=λi hi=>by have:=Qw.mp (g.perm.mem_iff.mp hi);omega
  have I2:Inv X pins σ (upd H h'.objs.size (.lst (p.toList.map λi=>vs.getD i .non))) { s with heap:=h2 }:=
   I1.laid (t':=s.toks) (λb x e'=>k2 b x (QC (Qk e')) (Qc _ e')) (Qh _) (show ObjOk X.prog X.w _ _ _ (.lst _) from⟨by rw[Qe,JN,g.size];exact Ju (Rk.Z9 (by omega)),_,e,QhO λi hi=>QjL rv i (hp i hi),e2⟩)
  have g':Good L.length p:=by rw[<- lp];exact g
  have ad':Adj (λi=>Rs.code (L.getD i (0,0))) p L.length:=by rw[<- lp];exact ad
  refine⟨.ref h'.objs.size,_,I2,rfl,q _ _ (p.toList.map λi=>L.getD i (0,0)) _ (Jg hf) hf Jh (Qij λi hi=>(Qlv ds i (hp i hi)).same (Jg hf)) (Qlg g') (Qlf g' ad' λi j hi hj e=>?_)⟩;have bi:0<=(L.getD i (0,0)).2/\(L.getD i (0,0)).2<64:=by rw[Qi,Qf hi];exact hb _ (ZJ _)
  have bj:0<=(L.getD j (0,0)).2/\(L.getD j (0,0)).2<64:=by rw[Qi,Qf hj];exact hb _ (ZJ _)
  unfold Rs.code at e;have e':L.getD i (0,0)=L.getD j (0,0):=QeC (by omega) (by omega);rw[Qi,Qi,Qf hi,Qf hj] at e';have pw:=Yf.mp nd;rcases QdX i j with z | z | z
  ·exact absurd e' (pw i j hi hj z)
  ·exact z
  ·exact absurd e'.symm (pw j i hj hi z)
theorem Qfe:∀{ns:List Int}{vs:List Value},Vals (ns.map V.int) vs->QbB vs ns
 |[],_,.nil=>.nil
 |i::ns,_,.cons ⟨t,e⟩ r=>by subst e;exact .cons _ _ (Qfe r)
theorem Qfm:∀{ns:List Int}{vs:List Value},QbB vs ns->Vals (ns.map V.int) vs
 |_,_,.nil=>.nil
 |_,_,.cons n t r=>.cons ⟨t,rfl⟩ (Qfm r)
def QoA(K:PySem.W.Frag):List V->Hp->VK->Prop:=λxs H Q=>∃l ns,xs=[.ref l]/\SqT K H l ((ns:List Int).map V.int)/\ns.length<64 /\
 ∀t ms H2,Same H H2->H t=none->H2 t=some (.lst ((ms:List Int).map V.int))->ms.Perm ns->ms.Pairwise (·<=·)->Q (.ref t) H2
theorem Qjf:CallR X (.builtin "sorted") (QoA X.K):=by
 intro pins s σ H xs us Q I r h;obtain⟨l,ns,rfl,hl,h64,q⟩:=h;obtain⟨u,rfl,ru⟩:=vals1 r;cases ru;obtain⟨its,rv,tp,hz⟩:=I.tuple hl;obtain⟨o,ho,hc,n,hd⟩:=tp;have li:=rv.length;rw[Qe] at li;refine Qbh (.inr rfl) ho hc hd (by omega) λh' kp P E' hP=>?_
 have hn:(h'.push (seqObj "list" its.toArray 0)).get? h'.objs.size=some (seqObj "list" its.toArray 0):=Qu _ rfl;refine list_sort_tree (s:={ s with heap:=h'.push (seqObj "list" its.toArray 0) }) hn (Qfe rv) (by omega) λout ns' ia pm pw=>hP _ ?_
 have I1:Inv X pins σ H { s with heap:=h' }:=I.kept (t':=s.toks) kp;have hf:H h'.objs.size=none:=I1.hok.fresh (Qh _);obtain⟨e,he⟩:∃e,(sortedHeap (h'.push (seqObj "list" its.toArray 0)) h'.objs.size its out).get? h'.objs.size=some (seqObj "list" out e):=sortedHeap_at hn
 have rv':=Qfm ia;have lp:=pm.length_eq;have I2:Inv X pins σ (upd H h'.objs.size (.lst (ns'.map V.int))) { s with heap:=sortedHeap (h'.push (seqObj "list" its.toArray 0)) h'.objs.size its out }:=
  I1.laid (t':=s.toks) (λb x e'=>(sortedHeap_old (QC (Qk e')) (QH (Qk e') (by rw[size_push'];exact QfH _))).trans (Qc _ e')) (Qh _) (show ObjOk X.prog X.w _ _ _ (.lst _) from⟨by rw[Qe];exact Ju (Rk.Z9 (by omega)),out.toList,e,rv',by rw[he]⟩)
 exact⟨.ref h'.objs.size,_,I2,rfl,q _ ns' _ (Jg hf) hf Jh pm pw⟩
end
end L2
namespace Re
open AutoSeq1 (wpAny_loadPart')
theorem Qo7{prog:Qz}{w:Jf}{A:Jb}{it t:Addr}{items:Array Value}(hh:A.handled=none)(hti:t≠it) :
  Draws prog w A it [it,t] items.size (λi x=>items[i]? = some x) (λi h=>h.IsTupleIter it t i/\h.IsTuple t items) where
 live:=λi h st=>by
  obtain⟨⟨o,ho,_⟩,_⟩:=st;exact⟨o,ho⟩
 frame:=λi h h' st k=>by
  obtain⟨⟨o,ho,c⟩,⟨o2,h2,c2⟩⟩:=st;exact⟨⟨o,k it (by simp) _ ho,c⟩,⟨o2,k t (by simp) _ h2,c2⟩⟩
 item:=λi s Q E hi st hQ=>by
  refine Rz.Qc7 st.1 st.2 (x:=items[i]) (by simp[hi]) λh' hit' hs'=>?_
  refine hQ _ h' s.toks (by simp[hi]) ⟨hit',?_⟩ hs';obtain⟨o2,h2,c2⟩:=st.2;exact⟨o2,(hs'.2 t hti).trans h2,c2⟩
 done:=λs Q E st hE=>Rz.Qhc hh st.1 st.2 (by simp) hE
theorem QiZ(l:Addr)(items:Array Value)(n:Nat)(dct:Option Addr)(sl:Array (Option Value)) :
  Meets (QcY.«enumerate.__new__» ⟨[.type "enumerate",.ref l],[]⟩) (λ_ R s=>s.heap.get? l=some { cls:=.type "tuple",dict:=dct,data:=.seq items n,slots:=sl } /\
   R (.ok (.ret (.ref (s.heap.push { cls:=.type "tuple_iterator",data:=.fields #[.ref l,.int 0 0] }).objs.size)))
    { s with heap:=(s.heap.push { cls:=.type "tuple_iterator",data:=.fields #[.ref l,.int 0 0] }).push { cls:=.type "enumerate",data:=.fields #[.none,.bool false,.ref s.heap.objs.size,rawInt 0,.none,.none] } }):=
 .of_wp λprog w A R s h=>by
  obtain⟨hp,g,d,tk,os⟩:=s;obtain⟨hl,h⟩:=h;have hsub:=sub_enumerate;have hL:Qjt (Qjo ⟨hp,g,d,tk,os⟩) l items:=⟨_,hl,rfl,n,rfl⟩
  wp_walk using Ye hl
  refine wpAny_stack_any λst=>Qm ?_
  split
  ·rename_i c _ _ _ _ _
   cases(c == QbV "enumerate")
   ·wp_walk using Ye hl,Z1 hL
    exact⟨_,rfl,h⟩
   ·wp_walk using Ye hl,Z1 hL
    exact⟨_,rfl,h⟩
  ·wp_walk using Ye hl,Z1 hL
   exact⟨_,rfl,h⟩
theorem Qjh{prog:Qz}{w:Jf}{A:Jb}{E:Value->Shared->Prop}{s:Shared}{l:Addr}{items:Array Value}{Q:Value->Shared->Prop}(hL:s.heap.IsTuple l items)
  (h:∀h',IsEnum h' (s.heap.objs.size+1) s.heap.objs.size 0 .none->h'.IsTupleIter s.heap.objs.size l 0->(∀b o,s.heap.get? b=some o->h'.get? b=some o)->Q (.ref (s.heap.objs.size+1)) { s with heap:=h' }) :
  wpAny (model prog w) A (call (.type "enumerate") [.ref l]) Q E s:=by
 obtain⟨⟨c,dct,dt,sl⟩,hl,hc,n,hd⟩:=hL
 replace hc:c=.type "tuple" := hc
 replace hd:dt=.seq items n:=hd
 subst hc hd;refine callType_new F.called_enumerate (by decide) (F.typeCall_enumerate_1 _) (F.newCall_enumerate_1 _) (λobj=>F.args_object_init_2 obj _) F.entry_enumerate_new (QiZ l items n dct sl) ⟨hl,?_⟩;have hz:(s.heap.push { cls:=.type "tuple_iterator",data:=.fields #[.ref l,.int 0 0] }).objs.size=s.heap.objs.size+1:=Yg ..;show _/\_;rw[hz];have he:=Qu (s.heap.push { cls:=.type "tuple_iterator",data:=.fields #[.ref l,.int 0 0] }) (o:={ cls:=.type "enumerate",data:=.fields #[.none,.bool false,.ref s.heap.objs.size,rawInt 0,.none,.none] }) rfl;rw[hz] at he;exact⟨⟨_,he,rfl⟩,h _ he ⟨_,Qc _ (Qu _ rfl),rfl,rfl⟩ λb o x=>Qc _ (Qc _ x)⟩
end Re
namespace L2
def Iet(l:Addr):It:=
 ⟨λi H=>∃xs x,H l=some (.tup xs)/\xs[i]? = some x,
  λi H v H'=>∃p x,H p=none/\(∀xs,H l=some (.tup xs)->xs[i]? = some x)/\v=.ref p/\H'=upd H p (.tup [.int (i:Nat),x]),
  λi H=>∃xs,H l=some (.tup xs)/\xs.length=i⟩
theorem QiF{P:Qz}{w:Jf}{K:PySem.W.Frag}{elts:List QR}{x1}{tpos:Pos}{e it l:Addr}(hne:e≠it) :
  Turn P w K (.Tuple elts x1 tpos) (Iet l) [e,it] e (λi h=>(∃old,IsEnum h e it (i:Nat) old)/\h.IsTupleIter it l i) where
 mem:=by simp
 obj:=λi h st b hb=>by
  obtain⟨⟨old,a1⟩,⟨o2,a2,_,d2⟩⟩:=st;simp only[Qq,QK,or_false] at hb;rcases hb with rfl | rfl
  ·exact⟨_,a1,λv q=>nomatch q⟩
  ·exact⟨_,a2,λv q=>by rw[d2] at q;cases q⟩
 keep:=λi h h' st k=>by
  obtain⟨⟨old,a1⟩,⟨o2,a2,c2⟩⟩:=st;exact⟨⟨old,k e (by simp) _ a1⟩,o2,k it (by simp) _ a2,c2⟩
 item:=by
  intro X hP hw hK hc i pins s σ H E I hf st hg;subst hP hw hK;obtain⟨xs,x,h1,hx⟩:=hg;obtain⟨⟨old,a1⟩,a2⟩:=st;obtain⟨its,r1,p1,_⟩:=I.tuple (SqT.of h1);obtain⟨u,hu,ru⟩:=r1.get hx;have nel:e≠l:=λz=>by have q:=(hf e (by simp)).1;rw[z,h1] at q;cases q
  have nil:l≠it:=λz=>by have q:=(hf it (by simp)).1;rw[<- z,h1] at q;cases q
  have hi:i<its.toArray.size:=by
   have:=(Jm.mp hu).1
   simpa using this
  refine Ql9 (Re.Qo7 (A:=X.A.in1) (t:=l) (I.ok.hd hc) nil) a1 ⟨a2,p1⟩ hi hne (by simp[hne,nel]) λy h' tk hy o' l' tp sz kp=>?_
  have ey:y=u:=by
   have e1:its.toArray[i]? = some u:=by simpa using hu
   rw[e1] at hy;exact(Qy hy).symm
  subst ey;obtain⟨l',tq⟩:=l';have fr:H s.heap.objs.size=none:=I.hok.fresh (Qh _);have n1:e≠s.heap.objs.size:=QC (Qk a1);have n2:it≠s.heap.objs.size:=by
   obtain⟨o2,a2,_⟩:=a2;exact QC (Qk a2)
  refine⟨_,rfl,Qbc o' λh2 e2 s2=>?_⟩;have I1:Inv X pins σ (upd H s.heap.objs.size (.tup [.int (i:Nat),x])) { s with heap:=h2,toks:=tk+1 }:=by
   refine I.turnedNew (ch:=[e,it]) hf (λb v hb q=>?_) (Qh _) ⟨by show 2<=sizeLine;decide,[.int (i:Nat) tk,y],.cons ⟨_,rfl⟩ (.cons ru .nil),?_⟩
   ·simp only[Qq,QK,or_false,not_or] at hb;exact s2.extBut _ _ hb.1 (kp b v hb.1 hb.2 q)
   ·exact⟨_,s2.extBut _ _ n1.symm tp,rfl,rfl,0,rfl⟩
  refine⟨.ref s.heap.objs.size,_,I1,rfl,⟨_,x,fr,λxs' q=>?_,rfl,rfl⟩,⟨⟨y,e2⟩,?_⟩,λb hb=>?_⟩
  ·rw[h1] at q;cases q;exact hx
  ·exact l'.extBut s2.extBut hne.symm
  ·simp only[Qq,QK,or_false] at hb;rcases hb with rfl | rfl
   ·rw[JC n1];exact(hf _ (by simp)).1
   ·rw[JC n2];exact(hf _ (by simp)).1
 done:=by
  intro X hP hw hK hc i pins s σ H E I hf st hg;subst hP hw hK;obtain⟨xs,h1,he⟩:=hg;obtain⟨⟨old,a1⟩,a2⟩:=st;obtain⟨its,r1,p1,_⟩:=I.tuple (SqT.of h1);have l1:=r1.length;have nel:e≠l:=λz=>by have q:=(hf e (by simp)).1;rw[z,h1] at q;cases q
  have nil:l≠it:=λz=>by have q:=(hf it (by simp)).1;rw[<- z,h1] at q;cases q
  have e0:its.toArray.size=i:=by rw[Qj];omega
  have D:=Re.Qo7 (prog:=X.prog) (w:=X.w) (A:=X.A.in1) (t:=l) (items:=its.toArray) (I.ok.hd hc) nil;rw[e0] at D;refine Qoc D a1 ⟨a2,p1⟩ λh' kp=>⟨rfl,I.turnedAll (t':=s.toks) (ch:=[e,it]) hf λb v hb q=>?_⟩
  simp only[Qq,QK,or_false,not_or] at hb;exact kp b v hb.2 q
 self:=λ_ _ _ _ _ st h=>by
  obtain⟨⟨old,a1⟩,_⟩:=st;exact Yi a1 h
def QuO(ta:TA):TI:=λσ H R=>ta σ H λvs H1=>∃l xs,vs=[.ref l]/\H1 l=some (.tup xs)/\R (Iet l) H1
section
variable{X:Cx}
theorem QmR{a:QR}{elts:List QR}{x1}{tpos:Pos}{ta:TA}{p pos:Pos}(hg:Gl X "enumerate")(hm:X.mg "enumerate" = none)(ha:PA X [a] ta)(hs:starEach [a] X.env=[(false,eval a X.env)]:=by rfl) :
  PI X (.Tuple elts x1 tpos) (.Call (.Name "enumerate" p) [a] [] pos) (QuO ta):=by
 intro pins s σ H R I h;refine Qwd (Qa0 I hg hm QdI (Q5 (thn (ha pos pins s σ H _ I h) λus s1 ⟨vs,H1,I1,r1,q1⟩=>?_) hs rfl));obtain⟨l,xs,e,h1,q⟩:=q1;subst e;obtain⟨u,rfl,ru⟩:=vals1 r1;cases(show u=JP l from ru);obtain⟨its,w1,p1,_⟩:=I1.tuple (SqT.of h1);refine Re.Qjh p1 λh' e1 i1 kp=>?_
 refine Yi (s:={ s1 with heap:=h' }) e1 ?_
 refine⟨s1.heap.objs.size+1,_,_,_,H1,rfl,I1.kept (t':=s1.toks) kp,QiF (by show ¬(s1.heap.objs.size+1=s1.heap.objs.size);omega),⟨⟨_,e1⟩,i1⟩,λb hb=>?_,q⟩;have hb':s1.heap.objs.size<=b:=by
  simp only[Qq,QK,or_false] at hb;rcases hb with rfl | rfl<;>omega
 exact I1.fpOk hb' (I1.hok.fresh hb')
def QpX:List V->Hp->VK->Prop:=λxs H Q=>∃r j,xs=[.ref r]/\H r=some (.rng 0 j) /\ -1000<=j/\j<=1000/\∀t H2,Same H H2->H t=none->H2 t=some (.lst ((Qg j.toNat).map λi=>V.int (i:Nat)))->Q (.ref t) H2
theorem QhA(hc:X.calm=true):CallR X (.type "list") QpX:=by
 intro pins s σ H xs us Q I r h;obtain⟨a,j,rfl,ha,h1,h2,q⟩:=h;obtain⟨u,rfl,ru⟩:=vals1 r;cases(show u=JP a from ru);obtain⟨t1,t2,t3,e⟩:=I.hok a _ ha;have hn:JM 0 j 1=((j.toNat:Nat):Int):=by rw[QeA];split<;>omega
 refine call_list_range (n:=j.toNat) (I.ok.hd hc) (show Qs7 s.heap a 0 j 1 t1 t2 t3 from e) (small_one (by omega) (by omega) (by omega) (by omega)) hn (QJ (show j.toNat<=1000 by omega) (by decide)) λh' tk acc c' kp hS hacc=>?_
 have hz:acc.size=j.toNat:=hacc.1;have rv:=Qi5 hacc;have hf:H s.heap.objs.size=none:=I.hok.fresh (Qh _);refine⟨.ref s.heap.objs.size,upd H s.heap.objs.size (.lst ((Qg j.toNat).map λi=>V.int (i:Nat))),I.laid (t':=tk) kp (Qh _) ⟨?_,acc.toList,c',rv,by rw[hS]⟩,rfl,q _ _ (Jg hf) hf Jh⟩;rw[Qe,Qv];exact Ju (Rk.Z9 (by omega))
end
end L2
namespace Rk
open L2
theorem Qdm{α:Type}[DecidableEq α]:∀{L M:List α},L.Nodup->M.Nodup->(∀x,x∈L↔x∈M)->M.Perm L
 |[],M,_,_,h=>by
  have:M=[]:=List.eq_nil_iff_forall_not_mem.mpr λx hx=>by have:=(h x).mpr hx;simp at this
  subst this;exact .nil
 |a::L,M,nL,nM,h=>by
  have ha:=(h a).mp (.head _);refine(List.perm_cons_erase ha).trans (.cons a (Qdm (JI.mp nL).2 (nM.erase a) λx=>?_));constructor
  ·intro hx;have ne:x≠a:=λz=>(JI.mp nL).1 (z ▸ hx)
   exact(List.mem_erase_of_ne ne).mpr ((h x).mp (.tail _ hx))
  ·intro hx;have ne:x≠a:=λz=>by subst z;exact nM.not_mem_erase hx
   rcases Qq.mp ((h x).mpr (List.mem_of_mem_erase hx)) with z | z
   ·exact absurd z ne
   ·exact z
theorem Qgo{α:Type}{r:α->α->Prop}(as:∀a b,r a b->r b a->a=b):∀{l m:List α},l.Perm m->l.Pairwise r->m.Pairwise r->l=m
 |[],m,p,_,_=>by
  have:=p.length_eq;exact(List.eq_nil_of_length_eq_zero this.symm).symm
 |a::l,[],p,_,_=>by
  have:=p.length_eq;cases this
 |a::l,b::m,p,h1,h2=>by
  have e:a=b:=by
   rcases Qq.mp (p.mem_iff.mp (QV (a:=a) (l:=l))) with q | q
   ·exact q
   ·rcases Qq.mp (p.mem_iff.mpr (QV (a:=b) (l:=m))) with z | z
    ·exact z.symm
    ·exact as a b (QgK h1 z) (QgK h2 q)
  subst e;rw[Qgo as p.cons_inv h1.of_cons h2.of_cons]
def Yo(h w:Nat):List (Int×Int):=(Qg h).flatMap λ(r:Nat)=>(Qg w).map λ(c:Nat)=>((r:Int),(c:Int))
theorem Qeq{h w:Nat}{x:Int×Int}:x∈Yo h w↔(0<=x.1/\x.1<h)/\0<=x.2/\x.2<w:=by
 unfold Yo;rw[J8];constructor
 ·rintro⟨r,hr,hx⟩;obtain⟨c,hc,rfl⟩:=QF.mp hx;have:=Qw.mp hr;have:=Qw.mp hc;exact⟨⟨by show(0:Int)<=(r:Int);omega,by show(r:Int)<h;omega⟩,by show(0:Int)<=(c:Int);omega,by show(c:Int)<w;omega⟩
 ·rintro⟨⟨h1,h2⟩,h3,h4⟩;refine⟨x.1.toNat,Qw.mpr (by omega),QF.mpr ⟨x.2.toNat,Qw.mpr (by omega),?_⟩⟩;exact QeC (by show((x.1.toNat:Nat):Int)=x.1;omega) (by show((x.2.toNat:Nat):Int)=x.2;omega)
theorem Qg5(h w:Nat):Yo (h+1) w=Yo h w++(Qg w).map λ(c:Nat)=>((h:Int),(c:Int)):=by
 unfold Yo;rw[J6,ZC];simp
theorem Qdl{w:Nat}(hw:w<=64):∀h:Nat,(Yo h w).Pairwise λa b=>Rs.code a<Rs.code b
 |0=>.nil
 |h+1=>by
  rw[Qg5];refine QjD.mpr ⟨Qdl hw h,?_,λa ha b hb=>?_⟩
  ·refine Zw.mpr (QfI (R:=λa b=>a<b) (λ{a b} hab=>?_) YG);unfold Rs.code;show 64*(h:Int)+(a:Int)<64*(h:Int)+(b:Int);omega
  ·have:=Qeq.mp ha;obtain⟨c,hc,rfl⟩:=QF.mp hb;unfold Rs.code;show 64*a.1+a.2<64*(h:Int)+(c:Int);omega
theorem Qej{L:List (Int×Int)}(h:L.Pairwise λa b=>Rs.code a<Rs.code b):L.Nodup:=QfI (λ{a b} q z=>by subst z;omega) h
theorem QhC{h w:Int}{L:List (Int×Int)}(g:Good h w L)(hw:w<=64):L.Pairwise λa b=>Rs.code a<Rs.code b:=by
 refine Qab (λ{a b} ha hb q=>?_) g.asc;have:=g.ins a ha;have:=g.ins b hb;unfold Rs.code;rcases q with z | z<;>omega
theorem QeQ{h w:Nat}{M L:List (Int×Int)}{P:Int×Int->Bool}(hw:w<=64)(pm:M.Perm L)(pw:M.Pairwise λa b=>Rs.code a<Rs.code b)(nd:L.Nodup)(hm:∀x,x∈L↔x∈Yo h w/\P x=true):M=(Yo h w).filter P:=by
 have pf:((Yo h w).filter P).Pairwise λa b=>Rs.code a<Rs.code b:=(Qdl hw h).filter P
 refine Qgo (λa b h1 h2=>by omega) (pm.trans (Qdm (Qej pf) nd λx=>?_)) pw pf;rw[QP];exact(hm x).symm
theorem Qhp{h w:Nat}{P:Int×Int->Bool}:(Yo h w).filter P=(Qg h).flatMap λ(r:Nat)=>(Qg w).filterMap λ(c:Nat)=>if P ((r:Int),(c:Int))=true then some ((r:Int),(c:Int)) else none:=by
 unfold Yo;rw[List.filter_flatMap];refine congrArg (λg=>List.flatMap g (Qg h)) (funext λr=>?_);rw[QsT,<- List.filterMap_eq_filter,List.map_filterMap];refine congrArg (λg=>List.filterMap g (Qg w)) (funext λc=>?_);show Qv7 _ (Qs2 _ c)=_;unfold Qs2;show Qv7 _ (if P ((r:Int),(c:Int))=true then some c else none)=_;by_cases q:P ((r:Int),(c:Int))=true
 ·rw[if_pos q,if_pos q];rfl
 ·rw[if_neg q,if_neg q];rfl
end Rk
namespace L2
section
variable{X:Cx}{pins:List (Addr×Obj)}{σ:St}{H:Hp}
theorem Qd2{M:List Str}{scope:YW}{fp:List Addr}{σ':St}{H3:Hp}{s3 s':Shared}{D:Addr}{i:Nat}{y:Str}{py:Pos}{Mo:Qs4}{A:Jb}{E:Value->Shared->Prop}{Q:Value->Shared->Prop}
  (I3:Inv X pins σ H3 s3)(f3:∀b∈fp,FpOk X pins H3 b)(J:Inv (blk X M scope (Qb0 X.env scope.names []) fp s3 H3 s3.heap.objs.size) [] σ' H s')
  (hN:X.N.Nodup)(hi:X.N[i]? = some y)(hl:X.env.scope.names.lookup y=some .local)(hq:∀s2,Inv X pins (σ.set i (some (.ref D))) H s2->Q .none s2) :
  wpAny Mo A (assign (.Name y py) X.env (.ref D)) (λ_ s2=>∃m,s2.heap.Ns s3.heap.objs.size m/\∀h',QbY s3.heap.objs.size s2.heap h'->Q .none { s2 with heap:=h' }) E s':=by
 have J0:Inv X pins σ H s':=QlS I3 f3 J (Heap.SameBut.refl ..);obtain⟨m,hn,_⟩:=J.loc;have hC:H s3.heap.objs.size=none:=J.free;have lt:X.env.locals<s3.heap.objs.size:=I3.lt;refine QvQ (QfU J0 hN hi (Q1 hl) (show RelV (.ref D) (.ref D) from rfl) (λs2 J2 ⟨a,sb,ha⟩=>?_) (.inr hl));have ea:a=X.env.locals∨X.env.cells.lookup y=some a:=ha;have na:s3.heap.objs.size≠a:=by
  rcases ea with z | z
  ·rw[z];exact Qb3 lt
  ·obtain⟨v,o,ho,_⟩:=I3.cell y a z;exact Qb3 (Qk ho)
 refine⟨m,hn.sameBut sb na,λh' hs=>hq _ ?_⟩;refine J2.turned (t':=s2.toks) (it:=s3.heap.objs.size) (λb o hb e=>hs.extBut b o hb e) hC (Qb3 lt) (.inr I3.sz) (λx c e z=>?_) λp hp z=>?_
 ·obtain⟨v,o,ho,_⟩:=I3.cell x c e;exact absurd (z ▸ Qk ho) (ZF _)
 ·have e:=(I3.pin p hp).1;exact absurd (z ▸ Qk e) (ZF _)
end
theorem Qf7{X:Cx}{M:List Str}{cap:List (Option Nat)}{elt tg iter tg2 iter2:QR}{ifs ifs2:List QR}{scope:YW}{pos:Pos}{wi wi2:TI}{g g2:TG}{tc tc2:TT}{te:TE}{i:Nat}{y:Str}{py spos:Pos}(hN:X.N.Nodup)(hiy:X.N[i]? = some y)(hly:X.env.scope.names.lookup y=some .local)(hc:X.calm=true)(ok:Qhy X.N X.env.scope M scope cap=true)
  (hi:PI X tg iter wi)(hb:∀cl ex s3 H3 C,PG (blk X M scope cl ex s3 H3 C) tg g/\PTs (blk X M scope cl ex s3 H3 C) ifs tc/\PI (blk X M scope cl ex s3 H3 C) tg2 iter2 wi2/\PG (blk X M scope cl ex s3 H3 C) tg2 g2/\PTs (blk X M scope cl ex s3 H3 C) ifs2 tc2/\PE (blk X M scope cl ex s3 H3 C) elt te)
  (hs:∀x,foldedSetIterable iter X.env x=pure x:=by intro _;rfl)(hs2:∀env x,foldedSetIterable iter2 env x=pure x:=by intro _ _;rfl)(hsw:swapsWith (.ListComp elt [⟨tg,iter,ifs,0⟩,⟨tg2,iter2,ifs2,0⟩] scope pos) (some (.Name y py)) spos.line X.env=pure true:=by rfl):PS X (.Assign [.Name y py] (.ListComp elt [⟨tg,iter,ifs,0⟩,⟨tg2,iter2,ifs2,0⟩] scope pos) spos) (QpI (Qot cap wi g tc wi2 g2 tc2 te) (QbE i)):=by
 intro pins s σ H D I h;have c:=CapOk.of ok;rw[exec_Assign_Name_used _ _ _ _ hsw];refine wpAny_bind (wpAny_standAt (wpAny_bind ?_));show wpAny _ X.A (do let _ <- comprehension (.ListComp elt [⟨tg,iter,ifs,0⟩,⟨tg2,iter2,ifs2,0⟩] scope pos) scope X.env _ (newList []) false (eval iter X.env) (some (assign (.Name y py) X.env))) _ _ s;refine wpAny_bind (wpAny_mono (Ql2 (use:=some (assign (.Name y py) X.env)) (Q:=λ_ s'=>SP X pins D .next s') rfl hs (QlE (I.ok.cells c)) c.kind c.loc ?_) (λ_ s' hq=>Qm (Qm hq)) λ_ _ e=>e);refine thn (hi pins s σ H _ I h) λv s1 h1=>thn h1 λitv s2 h2=>?_
 obtain⟨it,fp,tn,J,H2,e,I2,T,st2,f2,hW⟩:=h2;subst e;refine JH (QsL c.cell (by intro y hy;simp at hy) (λh₁ hns₁ hsb₁=>?_) c.kind);have I3:Inv X pins σ (upd H2 s2.heap.objs.size (.lst [])) { s2 with heap:=s2.heap.push { cls:=.type "list",data:=.seq ([]:List Value).toArray } }:=I2.lnew (t':=s2.toks) (ys:=[]) .nil (Js _);have lt2:∀b∈fp,b<s2.heap.objs.size:=λb hb=>by obtain⟨o,e,_⟩:=T.obj _ _ st2 b hb;exact Qk e
 have f3:∀b∈fp,FpOk X pins (upd H2 s2.heap.objs.size (.lst [])) b:=λb hb=>(f2 b hb).upd (QC (lt2 b hb))
 generalize hs3:({ s2 with heap:=s2.heap.push { cls:=.type "list",data:=.seq ([]:List Value).toArray } }:Shared)=s3 at I3;have e3:s3.heap=s2.heap.push { cls:=.type "list",data:=.seq ([]:List Value).toArray }:=by rw[<- hs3]
 have z3:s3.heap.objs.size=s2.heap.objs.size+1:=by rw[e3,Yg]
 have hk:∀b o,s3.heap.get? b=some o->h₁.get? b=some o:=λb o e=>hsb₁.extBut b o (by
  have:=Qk e;rw[e3] at this;exact QC this) (Qc _ (e3 ▸ e))
 have hn₁:h₁.Ns s3.heap.objs.size λ_=>none:=by rw[e3];exact hns₁
 have B:=Qgy (t4:=s3.toks+([]:List (Str×Value)).length) (fp:=fp) I3 c f3 (λb hb=>by rw[z3];exact Qpo (lt2 b hb)) hn₁ hk;have st4:tn 0 h₁:=T.keep _ _ _ st2 λb hb o e=>hk b o (by rw[e3];exact Qc _ e)
 have fp4:∀b∈fp,FpOk (blk X M scope (Qb0 X.env scope.names []) fp s3 (upd H2 s2.heap.objs.size (.lst [])) s3.heap.objs.size) [] (upd H2 s2.heap.objs.size (.lst [])) b:=λb hb=>by
  refine⟨(f3 b hb).1,(B.ok.exf b hb).1,B.ok.exfs b hb,.inl hb,(B.ok.exf b hb).2,λp hp=>(nomatch hp)⟩
 obtain⟨hg,ht,hi2,hg2,ht2,he⟩:=hb (Qb0 X.env scope.names []) fp s3 (upd H2 s2.heap.objs.size (.lst [])) s3.heap.objs.size;have loop:codeAny (model X.prog X.w) X.A (.compLoop (.ListComp elt [⟨tg,iter,ifs,0⟩,⟨tg2,iter2,ifs2,0⟩] scope pos) 0 (.ref it) (.ref s2.heap.objs.size) (compEnvC scope (Qb0 X.env scope.names []) s3.heap.objs.size X.env))
   (compPost (model X.prog X.w) X.A X.xe (some (assign (.Name y py) X.env)) (λ_ s'=>SP X pins D .next s') (.ref s2.heap.objs.size) s3.heap.objs.size) { s3 with heap:=h₁,toks:=s3.toks+([]:List (Str×Value)).length }:=by
  refine QdE (Y:=blk X M scope (Qb0 X.env scope.names []) fp s3 (upd H2 s2.heap.objs.size (.lst [])) s3.heap.objs.size) (gens:=[⟨tg,iter,ifs,0⟩,⟨tg2,iter2,ifs2,0⟩]) (d:=0) hc T st4 fp4
   (λQ E s h=>QiE (hs2 _) Q E s h) (λx u r=>QhB rfl hg ht (λσ4=>QlQ rfl hc hi2 hg2 ht2 he) x u r) B (hW _ (I2.hok.fresh (Qh _))) λs' H' I' q=>?_
  exact Qd2 (Q:=λ_ s'=>SP X pins D .next s') I3 f3 I' hN hiy hly λs2' J2=>⟨_,H',J2,q⟩
 exact Qog loop (T.self _ 0 _ _ _ st4 loop)
end L2
namespace Rk
open L2 _root_.Rd
def Qbi(F:Nat->Nat->Option (Int×Int))(m i:Nat):List (Int×Int):=(Qg i).flatMap λk=>(Qg m).filterMap (F k)
theorem Qdi(F:Nat->Nat->Option (Int×Int))(m i:Nat):Qbi F m (i+1)=Qbi F m i++(Qg m).filterMap (F i):=by
 unfold Qbi;rw[J6,ZC];simp
theorem QoY{α β:Type}(F:α->Option β)(l:List α):(l.filterMap F).length<=l.length:=Qbb F l
theorem Qeh(F:Nat->Nat->Option (Int×Int))(m:Nat):∀i,(Qbi F m i).length<=i*m
 |0=>by simp[Qbi]
 |i+1=>by
  rw[Qdi,QM,Qd6];have h1:=Qeh F m i;have h2:=QoY (F i) (Qg m);rw[Qv] at h2;omega
def QsJ(H1:Hp)(pl:Addr)(m:Nat)(Fi:Nat->Option (Int×Int))(g2:TG)(tc2:TT)(te:TE)(σ4:L2.St)(J2:It):Prop:=
 (∀j H6,j<m->Same H1 H6->(∃ys,H6 pl=some (.lst ys))->J2.go j H6/\∀y H7,J2.yld j H6 y H7->∀(kn:Hp->Prop)(kv:VK),(Fi j=none->∀H8,Same H6 H8->kn H8) ->
  (∀ij t H8,Fi j=some ij->Same H6 H8->t≠pl->H8 t=some (.tup [.int ij.1,.int ij.2])->kv (.ref t) H8)->g2 y σ4 H7 λσ6 H9=>Wk σ4 σ6/\tc2 σ6 H9 λb H10=>if b=true then te σ6 H10 kv else kn H10) /\
 ∀H6,Same H1 H6->J2.stop m H6
theorem QnW{J:It}{σ:L2.St}{g:TG}{wi2:TI}{g2:TG}{tc2:TT}{te:TE}{pl:Addr}{H1:Hp}{Qn:Hp->Prop}(n m:Nat)(hnm:n*m<=900)(hm:m<=90)(F:Nat->Nat->Option (Int×Int))(hp:H1 pl=none)
  (hs:∀i H2,i<n->Same H1 H2->(∃ys,H2 pl=some (.lst ys))->J.go i H2/\∀x H3,J.yld i H2 x H3->∀(k2:L2.St->It->Hp->Prop)(kk:Hp->Prop),(∀σ4 J2 H5,Same H2 H5->QsJ H1 pl m (F i) g2 tc2 te σ4 J2->k2 σ4 J2 H5) ->
   g x σ H3 λσ4 H4=>Wk σ σ4/\if true=true then wi2 σ4 H4 (λJ2 H5=>k2 σ4 J2 H5) else kk H4)
  (hst:∀H2,Same H1 H2->J.stop n H2) (hq:∀H2 ys,Same H1 H2->H2 pl=some (.lst ys)->Cs pl H2 ys (Qbi F m n)->Qn H2) :
  QeN J (bOf σ g Qbg (QsE wi2 g2 tc2 pl te)) Qn (upd H1 pl (.lst [])):=by
 refine QbP n (λi H2=>Same H1 H2/\∃ys,H2 pl=some (.lst ys)/\Cs pl H2 ys (Qbi F m i)) ⟨Jg hp,[],Jh,.nil⟩ (λi H2 hi ⟨s2,ys,e2,c2⟩=>?_) λH2 ⟨s2,ys,e2,c2⟩=>⟨hst H2 s2,hq H2 ys s2 e2 c2⟩
 obtain⟨go,st⟩:=hs i H2 hi s2 ⟨ys,e2⟩;refine⟨go,λx H3 y k hk=>?_⟩;refine st x H3 y (λσ4 J2 H5=>QeN J2 (bOf σ4 g2 tc2 (Qpg pl te)) k H5) k λσ4 J2 H5 s5 ⟨inn,fin⟩=>?_
 refine QbP m (λj H6=>Same H1 H6/\∃zs,H6 pl=some (.lst zs)/\Cs pl H6 zs (Qbi F m i++(Qg j).filterMap (F i))) ⟨s2.trans s5,ys,s5 _ _ e2,by simpa using c2.kx (KX.of s5)⟩ (λj H6 hj ⟨s6,zs,e6,c6⟩=>?_)
  λH6 ⟨s6,zs,e6,c6⟩=>⟨fin H6 s6,hk H6 ⟨s6,zs,e6,by rw[Qdi];exact c6⟩⟩
 obtain⟨go2,st2⟩:=inn j H6 hj s6 ⟨zs,e6⟩;refine⟨go2,λy2 H7 yl2 k7 hk7=>?_⟩;have er:(Qg (j+1)).filterMap (F i)=(Qg j).filterMap (F i)++(F i j).toList:=by
  rw[J6,YV];cases e:F i j<;>simp[e]
 refine st2 y2 H7 yl2 k7 (λv H8=>∃ys,H8 pl=some (.lst ys)/\ys.length<sizeLine/\k7 (upd H8 pl (.lst (ys++[v])))) (λe H8 s8=>?_) λij t H8 e s8 nt et=>?_
 ·refine hk7 _ ⟨s6.trans s8,zs,s8 _ _ e6,?_⟩;rw[er,e]
  simpa using c6.kx (KX.of s8)
 ·have e8:=s8 _ _ e6;refine⟨_,e8,?_,hk7 _ ⟨λb o q=>?_,zs++[.ref t],Jh,?_⟩⟩
  ·have l1:=c6.len;rw[QM] at l1;have l2:=Qeh F m i;have l3:=QoY (F i) (Qg j);rw[Qv] at l3;have l4:i*m<=n*m:=Nat.mul_le_mul_right m (Ju hi);exact Z9 (by omega)
  ·rw[JC (J4 q hp)];exact s8 b o (s6 b o q)
  ·rw[er,e,<- QdQ];exact((c6.kx (KX.of s8)).kx KX.upd).snoc ⟨t,nt,rfl,by rw[JC nt];exact et⟩
def Qis(h w:Int)(L:List (Int×Int)):Qb:=.tuple [.int h,.int w,.tuple (L.map pairD)]
section
variable{X:Cx}
def Qyq(X:Cx):R2:=λx y H Q=>∃dx dy,Dat H x dx/\Dat H y dy/\X.A.units+min dx.depth dy.depth<cLine/\Q (.bl (!QL dx dy)) H
theorem Que:OpR X (compareOp .NotEq) (Qyq X):=by
 intro pins s σ H x y v u Q I rx ry h;obtain⟨dx,dy,qx,qy,hu,q⟩:=h;obtain⟨⟨as,ra⟩,ca⟩:=ZM I.hok dx x v qx rx;obtain⟨⟨bs,rb⟩,cb⟩:=ZM I.hok dy y u qy ry;exact SeqAt.compareNe_reads ra rb ca cb hu ⟨.bl _,H,I,rfl,q⟩
end
end Rk
namespace Rk
open L2
end Rk
namespace Rx
open PySem.Calls L2
section
variable{X:Cx}{E:XK}
end
section
variable{X:Cx}{tf:TE}{fe:QR}{pos:Pos}{e:QR}{es:List QR}{t:TA}{M:Addr->Sp->Prop}
end
end Rx
namespace Rk
open L2 _root_.Rd
structure GlbA (mg:Str->Option Value):Prop where
 isinstance:mg "isinstance" = none
 int:mg "int" = none
 bool:mg "bool" = none
 str:mg "str" = none
 tuple:mg "tuple" = none
 list:mg "list" = none
 all:mg "all" = none
 len:mg "len" = none
 zip:mg "zip" = none
 enumerate:mg "enumerate" = none
 range:mg "range" = none
 max:mg "max" = none
 min:mg "min" = none
 sorted:mg "sorted" = none
 sum:mg "sum" = none
 set:mg "set" = none
 any:mg "any" = none
 reversed:mg "reversed" = none
 divmod:mg "divmod" = none
def QvF(u:Nat)(neg:Bool):R2:=λx y H Q=>∃c ps ds d,y=.ref c/\H c=some (.tup ps)/\Dats H ps ds/\Dat H x d/\u+d.depth<cLine/\Q (.bl (if neg then !(ds.any λe=>QL e d) else ds.any λe=>QL e d)) H
theorem QoP{X:Cx}:OpR X (compareOp .In) (QvF X.A.in1.units false):=Qug
end Rk
namespace Rx
open PySem.Calls L2
section
variable{P:Qz}{w:Jf}{K:PySem.W.Frag}{mg:Str->Option Value}{base:JR}
theorem okE{x qual:Str}{st:ZG}{f:Addr}{fd:QN}{N ps:List Str}{k:Nat}{sp:Sp}(F:Fun K x qual st f fd)(S:Jq N ps (Qt st))(len:∀vs H Q E,sp vs H Q E->vs.length=ps.length)
  (hbody:∀(cdv:Value)(A:Jb)(outer:List Env)(s:Shared)(H:Hp)(vs:List V)(Q:VK)(E:XK),Room k (A.deeper (envOfC qual (Qt st) s.heap.objs.size f cdv))->sp vs H Q E ->
   ∃t,PSs (QlA (CXE P w) P w K mg base N qual (Qt st) f cdv A outer s H E) (Jj st) t/\t { nx:=λ_ H'=>Q .non H',rt:=Q } (start N vs) H):FnOk P w K mg base (CXE P w) (k+1) f fd ps sp:=by
 obtain⟨oc,od,kV,doc,pm,an,cdv,ct,osl,rfl,lk,hcd⟩:=F.ex;exact QuP lk hcd S len λA outer s H vs Q E hr hsp=>hbody cdv A outer s H vs Q E hr hsp
end
end Rx
namespace Rk
open L2 _root_.Rd
section
variable{X:Cx}{is js:List Nat}
end
end Rk
namespace L2
theorem Yb{h:JR}{a:Addr}{its:Array Value}(p:PlainL h a its):h.IsList a its:=by
 obtain⟨o,n,h1,h2,_,h3⟩:=p;exact⟨o,h1,h2,n,h3⟩
structure QgE (h:JR) (z TI TO i1 i2 t1 t2:Addr) (f:Value) (k:Nat):Prop where
 zp:Qpv h z TI TO f
 ti:IsPair h TI (.ref i1) (.ref i2)
 to:∃a b,IsPair h TO a b
 i1:h.IsListIter i1 t1 k
 i2:h.IsListIter i2 t2 k
section
variable{prog:Qz}{w:Jf}{A:Jb}{E:Value->Shared->Prop}{s:Shared}
theorem QjG{z TI TO i1 i2 t1 t2:Addr}{k:Nat}{xs ys:Array Value}{x y:Value}{Q:Option Value->Shared->Prop}(D:Qvu z TI TO i1 i2 t1 t2)(Z:QgE s.heap z TI TO i1 i2 t1 t2 .none k)
  (hl1:s.heap.IsList t1 xs)(hl2:s.heap.IsList t2 ys)(hx:xs[k]? = some x)(hy:ys[k]? = some y)
  (hQ:∀h',QgE h' z TI TO i1 i2 t1 t2 (rawInt s.heap.objs.size) (k+1)->IsPair h' s.heap.objs.size x y->(∀c o,c≠z->c≠TO->c≠i1->c≠i2->s.heap.get? c=some o->h'.get? c=some o)->Q (some (.ref s.heap.objs.size)) { s with heap:=h' }) :
  wpAny (model prog w) A (pyNext (.ref z)) Q E s:=by
 obtain⟨hz,hTI,⟨a,b,hTO⟩,h1,h2⟩:=Z;exact wpAny_pyNext_zip_item D hz hTI hTO h1 h2 hl1 hl2 hx hy λh' a1 a2 a3 a4 a5 a6 a7=>hQ h' ⟨a1,a7 _ _ D.TIz D.TITO D.TIi1 D.TIi2 hTI,⟨x,y,a2⟩,a3,a4⟩ a5 a7
theorem Qml{z TI TO i1 i2 t1 t2:Addr}{k:Nat}{xs ys:Array Value}{Q:Option Value->Shared->Prop}(hh:A.handled=none)(D:Qvu z TI TO i1 i2 t1 t2)(Z:QgE s.heap z TI TO i1 i2 t1 t2 .none k)
  (hl1:s.heap.IsList t1 xs)(hl2:s.heap.IsList t2 ys)(hend:xs[k]? = none∨ys[k]? = none)
  (hQ:∀h',(∀c o,c≠z->c≠TO->c≠i1->c≠i2->s.heap.get? c=some o->h'.get? c=some o)->Q none { s with heap:=h' }):wpAny (model prog w) A (pyNext (.ref z)) Q E s:=by
 obtain⟨hz,hTI,⟨a,b,hTO⟩,h1,h2⟩:=Z;exact wpAny_pyNext_zip_end hh D hz hTI hTO h1 h2 hl1 hl2 hend hQ
theorem QjH{t1 t2:Addr}{xs ys:Array Value}{Q:Value->Shared->Prop}(hl1:s.heap.IsList t1 xs)(hl2:s.heap.IsList t2 ys)
  (h:∀h',QgE h' (s.heap.objs.size+4) (s.heap.objs.size+2) (s.heap.objs.size+3) s.heap.objs.size (s.heap.objs.size+1) t1 t2 .none 0->(∀c o,s.heap.get? c=some o->h'.get? c=some o)->Q (.ref (s.heap.objs.size+4)) { s with heap:=h' }) :
  wpAny (model prog w) A (call (.type "zip") [.ref t1,.ref t2]) Q E s:=
 call_zip_2 hl1 hl2 λh' a1 a2 a3 a4 a5 a6 a7=>h h' ⟨a1,a2,⟨_,_,a3⟩,a4,a5⟩ a7
end
def Qye(t1 t2:Addr):It:=
 ⟨λi H=>∃xs ys x y,H t1=some (.lst xs)/\H t2=some (.lst ys)/\xs[i]? = some x/\ys[i]? = some y,
  λi H v H'=>∃p x y,H p=none/\(∀xs,H t1=some (.lst xs)->xs[i]? = some x)/\(∀ys,H t2=some (.lst ys)->ys[i]? = some y)/\v=.ref p/\H'=upd H p (.tup [x,y]),
  λi H=>∃xs ys,H t1=some (.lst xs)/\H t2=some (.lst ys)/\(xs.length<=i∨ys.length<=i)⟩
theorem QjM{P:Qz}{w:Jf}{K:PySem.W.Frag}{elts:List QR}{x1}{tpos:Pos}{z TI TO i1 i2 t1 t2:Addr}(D:Qvu z TI TO i1 i2 t1 t2) :
  Turn P w K (.Tuple elts x1 tpos) (Qye t1 t2) [z,TI,TO,i1,i2] z (λi h=>QgE h z TI TO i1 i2 t1 t2 .none i) where
 mem:=by simp
 obj:=λi h st b hb=>by
  obtain⟨a1,a2,⟨_,_,a3⟩,⟨o4,a4,_,d4⟩,⟨o5,a5,_,d5⟩⟩:=st;simp only[Qq,QK,or_false] at hb;rcases hb with rfl | rfl | rfl | rfl | rfl
  ·exact⟨_,a1,λv q=>nomatch q⟩
  ·exact⟨_,a2,λv q=>nomatch q⟩
  ·exact⟨_,a3,λv q=>nomatch q⟩
  ·exact⟨_,a4,λv q=>by rw[d4] at q;cases q⟩
  ·exact⟨_,a5,λv q=>by rw[d5] at q;cases q⟩
 keep:=λi h h' st k=>by
  obtain⟨a1,a2,⟨a,b,a3⟩,a4,a5⟩:=st;exact⟨k z (by simp) _ a1,k TI (by simp) _ a2,⟨a,b,k TO (by simp) _ a3⟩,a4.at λo e=>k i1 (by simp) o e,a5.at λo e=>k i2 (by simp) o e⟩
 item:=by
  intro X hP hw hK hc i pins s σ H E I hf st hg;subst hP hw hK;obtain⟨xs,ys,x,y,h1,h2,hx,hy⟩:=hg;obtain⟨its1,r1,p1,_⟩:=I.list (SqL.of h1);obtain⟨its2,r2,p2,_⟩:=I.list (SqL.of h2);obtain⟨u1,hu1,ru1⟩:=r1.get hx;obtain⟨u2,hu2,ru2⟩:=r2.get hy;refine QjG D st (Yb p1) (Yb p2) (by simpa using hu1) (by simpa using hu2) λh' st' tp kp=>?_
  have hlt:∀b∈[z,TI,TO,i1,i2],b≠s.heap.objs.size:=λb hb=>by
   obtain⟨a1,a2,⟨_,_,a3⟩,⟨o4,a4,_,d4⟩,⟨o5,a5,_,d5⟩⟩:=st;simp only[Qq,QK,or_false] at hb;rcases hb with rfl | rfl | rfl | rfl | rfl
   ·exact QC (Qk a1)
   ·exact QC (Qk a2)
   ·exact QC (Qk a3)
   ·exact QC (Qk a4)
   ·exact QC (Qk a5)
  have fr:H s.heap.objs.size=none:=I.hok.fresh (Qh _);refine⟨_,rfl,Qjy st'.zp λh2' z2 s2=>?_⟩;have I1:Inv X pins σ (upd H s.heap.objs.size (.tup [x,y])) { s with heap:=h2',toks:=s.toks }:=by
   refine I.turnedNew (ch:=[z,TI,TO,i1,i2]) hf (λb u hb e=>?_) (Qh _) ⟨by show 2<=sizeLine;decide,[u1,u2],.cons ru1 (.cons ru2 .nil),?_⟩
   ·simp only[Qq,QK,or_false,not_or] at hb;exact s2.extBut _ _ hb.1 (kp b u hb.1 hb.2.2.1 hb.2.2.2.1 hb.2.2.2.2 e)
   ·exact⟨_,s2.extBut _ _ (hlt z (by simp)).symm tp,rfl,rfl,0,rfl⟩
  refine⟨.ref s.heap.objs.size,_,I1,rfl,⟨_,x,y,fr,λxs' e=>?_,λys' e=>?_,rfl,rfl⟩,?_,λb hb=>?_⟩
  ·rw[h1] at e;cases e;exact hx
  ·rw[h2] at e;cases e;exact hy
  ·obtain⟨a1,a2,⟨a,b,a3⟩,a4,a5⟩:=st';exact⟨z2,s2.extBut _ _ D.TIz a2,⟨a,b,s2.extBut _ _ D.TOz a3⟩,a4.extBut s2.extBut D.i1z,a5.extBut s2.extBut D.i2z⟩
  ·rw[JC (hlt b hb)];exact(hf b hb).1
 done:=by
  intro X hP hw hK hc i pins s σ H E I hf st hg;subst hP hw hK;obtain⟨xs,ys,h1,h2,he⟩:=hg;obtain⟨its1,r1,p1,_⟩:=I.list (SqL.of h1);obtain⟨its2,r2,p2,_⟩:=I.list (SqL.of h2);have l1:=r1.length;have l2:=r2.length;refine Qml (I.ok.hd hc) D st (Yb p1) (Yb p2) ?_ λh' kp=>⟨rfl,I.turnedAll (t':=s.toks) (ch:=[z,TI,TO,i1,i2]) hf λb u hb e=>?_⟩
  ·rcases he with q | q
   ·exact .inl (by simp;omega)
   ·exact .inr (by simp;omega)
  ·simp only[Qq,QK,or_false,not_or] at hb;exact kp b u hb.1 hb.2.2.1 hb.2.2.2.1 hb.2.2.2.2 e
 self:=λ_ _ _ _ _ st h=>Qco st.zp h
section
variable{X:Cx}
theorem Qjk(n t1 t2:Nat)(h1:t1<n)(h2:t2<n):Qvu (n+4) (n+2) (n+3) n (n+1) t1 t2 where
 TIz:=by show ¬(n+2=n+4);omega
 TOz:=by show ¬(n+3=n+4);omega
 i1z:=by show ¬(n=n+4);omega
 i2z:=by show ¬(n+1=n+4);omega
 TITO:=by show ¬(n+2=n+3);omega
 TIi1:=by show ¬(n+2=n);omega
 TIi2:=by show ¬(n+2=n+1);omega
 TOi1:=by show ¬(n+3=n);omega
 TOi2:=by show ¬(n+3=n+1);omega
 i12:=by show ¬(n=n+1);omega
 l1z:=by show ¬(t1=n+4);omega
 l1TO:=by show ¬(t1=n+3);omega
 l1i1:=by show ¬(t1=n);omega
 l1i2:=by show ¬(t1=n+1);omega
 l2z:=by show ¬(t2=n+4);omega
 l2TO:=by show ¬(t2=n+3);omega
 l2i1:=by show ¬(t2=n);omega
 l2i2:=by show ¬(t2=n+1);omega
def Qxf(ta:TA):TI:=λσ H R=>ta σ H λvs H1=>∃t1 t2 xs ys,vs=[.ref t1,.ref t2]/\H1 t1=some (.lst xs)/\H1 t2=some (.lst ys)/\R (Qye t1 t2) H1
theorem QlN:bootBuiltins "zip" = some (.type "zip"):=by decide +kernel
theorem Qrd{a b:QR}{elts:List QR}{x1}{tpos:Pos}{ta:TA}{p pos:Pos}(hg:Gl X "zip")(hm:X.mg "zip" = none)(ha:PA X [a,b] ta)(hs:starEach [a,b] X.env=[(false,eval a X.env),(false,eval b X.env)]:=by rfl)(hs2:starEach [b] X.env=[(false,eval b X.env)]:=by rfl) :
  PI X (.Tuple elts x1 tpos) (.Call (.Name "zip" p) [a,b] [] pos) (Qxf ta):=by
 intro pins s σ H R I h;refine Qwd (Qa0 I hg hm QlN (Q5 (thn (ha pos pins s σ H _ I h) λus s1 ⟨vs,H1,I1,r1,q1⟩=>?_) (by rw[hs,hs2]) (by rw[hs2];rfl)));obtain⟨t1,t2,xs,ys,e,h1,h2,q⟩:=q1;subst e;obtain⟨u,v,rfl,ru,rv⟩:=vals2 r1;cases(show u=JP t1 from ru);cases(show v=JP t2 from rv);obtain⟨its1,w1,p1,_⟩:=I1.list (SqL.of h1);obtain⟨its2,w2,p2,_⟩:=I1.list (SqL.of h2);have n1:t1<s1.heap.objs.size:=I1.hok.lt h1;have n2:t2<s1.heap.objs.size:=I1.hok.lt h2;refine QjH (Yb p1) (Yb p2) λh' st kp=>?_
 refine Qco (s:={ s1 with heap:=h' }) st.zp ?_
 have D:=Qjk s1.heap.objs.size t1 t2 n1 n2;refine⟨s1.heap.objs.size+4,_,_,_,H1,rfl,I1.kept (t':=s1.toks) kp,QjM D,st,λb hb=>?_,q⟩;have hb':s1.heap.objs.size<=b:=by
  simp only[Qq,QK,or_false] at hb;rcases hb with rfl | rfl | rfl | rfl | rfl<;>omega
 exact I1.fpOk hb' (I1.hok.fresh hb')
end
def QtJ(K:PySem.W.Frag):List V->Hp->VK->Prop:=λxs H Q=>∃p ys,xs=[.ref p]/\(SqL K H p ys∨SqT K H p ys)/\Q (.int ys.length) H
theorem Qgx:bootBuiltins "sorted" = some (.builtin "sorted"):=by decide +kernel
def CMulB(i j:Int):Prop:=∃k:Nat,k<=1000000/\i.natAbs<2^k/\j.natAbs<2^k
theorem QlT{i:Int}{k:Nat}(h:i.natAbs<2^k):JU i<=k:=by
 unfold JU;split
 ·exact Js _
 ·rename_i z
  have hz:i.natAbs≠0:=by
   intro q;apply z
   have:i=0:=by omega
   subst this;rfl
  have:=(Nat.log2_lt hz).mpr h;omega
theorem CMulB.ok{i j:Int}(h:CMulB i j):IntMulOk i j:=by
 obtain⟨k,hk,h1,h2⟩:=h;have a:=QlT h1;have b:=QlT h2;unfold IntMulOk;have c:QeI (JU i+JU j:Nat)=false:=by
  unfold QeI;rw[decide_eq_false];have:bitsLine=134217728:=by decide +kernel
  rw[this];omega
 intro z;rw[Jy] at z;have z2:=z.2;have e:((JU i+JU j:Nat):Int)=(JU i:Int)+(JU j:Int):=by omega
 rw[e] at c;rw[c] at z2;cases z2
section
variable{X:Cx}
theorem QrI:OpR X (binaryOp .Mult) (rI CMulB λi j=>.int (i*j)):=opI λ_ _ _ _ _ _ _ hc q=>mul_int q hc.ok
theorem QnP:Qyc X (QvE X.K):=by
 intro pins s σ H o i ov iv Q I ro ri h;obtain⟨p,xs,k,z,rfl,rfl,hq,he,q⟩:=h;cases ro;obtain⟨t,rfl⟩:=ri;obtain⟨its,r,pl,hz⟩:=I.list hq;obtain⟨j,h1,h2,h3,h4,h5⟩:=QhE he;obtain⟨w,ew,rw'⟩:=r.get h2;have hl:=r.length;have hn:=Qdv;have fin:EP X pins σ Q w s:=⟨z,H,I,rw',q⟩;by_cases h0:0<=k
 ·have hj:k.toNat=j:=by
   rw[Qiw h0 h5] at h1;exact Qy h1
  exact wpAny_getItem_list pl.isList h0 (by omega) (by rw[hj];simpa using ew) fin
 ·have hj:(k+(its.toArray.size:Int)).toNat=j:=by
   rw[QgG (by omega) h4] at h1;rw[Qj,<- hl];exact Qy h1
  exact Qod pl.isList (by omega) (by rw[Qj]<;>omega) (by omega) (by rw[hj];simpa using ew) fin
end
end L2
namespace Rk
open L2 _root_.Rd
def QxK(u:Nat):R2:=λx y H Q=>∃dx dy,Dat H x dx/\Dat H y dy/\u+min dx.depth dy.depth<cLine/\Q (.bl (!QL dx dy)) H
theorem Qud{X:Cx}:OpR X (compareOp .NotEq) (QxK X.A.units):=Que
def QxP(u:Nat):R2:=λx y H Q=>∃dx dy,Dat H x dx/\Dat H y dy/\u+min dx.depth dy.depth<cLine/\Q (.bl (QL dx dy)) H
theorem Quj{X:Cx}:OpR X (compareOp .Eq) (QxP X.A.units):=Quk
theorem QkK{X:Cx}:OpR X (compareOp .NotIn) (QvF X.A.in1.units true):=QkL
end Rk
namespace Rx
open PySem.Calls L2
theorem QrC{P:Qz}{w:Jf}{X:Cx}:Qcm (CXE P w) X E0:=by
 intro pins σ H s e s' I h;obtain⟨C,H',_,q⟩:=h;exact q.elim
end Rx
namespace Rk
open L2 _root_.Rd
theorem Qr9{n k:Nat}(h:k<n):ixN n (k:Nat)=some k:=by
 unfold ixN;rw[if_pos (by omega),if_pos (by omega)];simp
end Rk
namespace HT
section
open PySem.SeqAt
open PySem.AutoSeq1 (wpAny_loadPart')
open PySem.MeetsSeq PySem.MeetsSeq2 PySem.MeetsSeq3
end
section
variable{prog:Qz}{w:Jf}{A:Jb}{E:Value->Shared->Prop}{s:Shared}
end
end HT
namespace L2
def QtF(K:PySem.W.Frag):V->Option Int->Option Int->Hp->VK->Prop:=λx lo hi H Q=>∃a xs,x=.ref a/\SqL K H a xs/\∀p H',Same H H'->H p=none->H' p=some (.lst (Qin xs lo hi))->Q (.ref p) H'
theorem Qmx{X:Cx}:SlR X (QtF X.K):=by
 intro pins s σ H x v vl vu lo hi sl Q I rx hs pl pu h;obtain⟨a,xs,e,hx,q⟩:=h;exact QpO pins s σ H x v vl vu lo hi sl Q I rx hs pl pu ⟨a,xs,e,hx,λp hp=>q p _ (Jg hp) hp Jh⟩
theorem cut_last(xs:List V):(Qin xs (some (-1)) none).length<=1:=by
 unfold Qin;rw[Y5,Qd7];have h2:xs.length - 1<=HT.sIx xs.length 0 (some (-1)):=by
  show xs.length - 1<=(if(-1:Int)<0 then((-1:Int)+(xs.length:Int)).toNat else min (-1:Int).toNat xs.length);rw[if_pos (by decide)];omega
 omega
end L2
namespace Rk
open L2 _root_.Rd
end Rk
namespace L2
section
variable{X:Cx}
def Qkg(K:PySem.W.Frag):List V->Hp->VK->Prop:=λxs H Q=>∃p ys,xs=[.ref p]/\((SqL K H p ys/\∀l H',Same H H'->H l=none->H' l=some (.tup ys)->Q (.ref l) H')∨(SqT K H p ys/\Q (.ref p) H))
theorem Za:CallR X (.type "tuple") (Qkg X.K):=by
 intro pins s σ H xs us Q I r h;obtain⟨p,ys,e,h⟩:=h;refine Qcj pins s σ H xs us Q I r ⟨p,ys,e,?_⟩;rcases h with⟨h1,h2⟩ | h
 ·exact .inl ⟨h1,λl hl=>h2 l _ (Jg hl) hl Jh⟩
 ·exact .inr h
def Qkj(K:PySem.W.Frag):List V->Hp->VK->Prop:=λxs H Q=>∃p ys,xs=[.ref p]/\(SqL K H p ys∨SqT K H p ys)/\∀l H',Same H H'->H l=none->H' l=some (.lst ys)->Q (.ref l) H'
theorem Qfl:CallR X (.type "list") (Qkj X.K):=by
 intro pins s σ H xs us Q I r h;obtain⟨p,ys,e,h1,h2⟩:=h;exact Qgw pins s σ H xs us Q I r ⟨p,ys,e,h1,λl hl=>h2 l _ (Jg hl) hl Jh⟩
end
end L2
namespace Rk
open L2 _root_.Rd
end Rk
namespace L2
section
variable{X:Cx}
end
section
variable{X:Cx}
end
end L2
namespace Rk
open L2 _root_.Rd
end Rk
namespace Rx
open PySem.Calls L2
section
variable{X:Cx}{e:QR}{st:ZG}{pos:Pos}{te:TX}{t u:TSX}{tc:TT}{c:QR}{a b:List ZG}
end
section
variable{X:Cx}{R:Addr}{i:Nat}{n r:Str}{body:List ZG}{hx:QR}{tb:TSX}{th:TE}{np hp hpos pos:Pos}
end
end Rx
namespace L2
section
variable{X:Cx}
end
end L2
namespace Rk
open L2 _root_.Rd
end Rk
namespace Dl
open L2 _root_.Rd Rk
def dkV(kvs:List (Int×Int)):List (Key×V):=kvs.map λp=>(Qb1 p.1,V.int p.2)
def dkD(kvs:List (Int×Int)):List (Qb×Qb):=kvs.map λp=>(Qs p.1,Qs p.2)
mutual
inductive DA (A:Addr->Prop) (H:Hp):V->Qb->Prop
 |non:DA A H .non .none
 |bl (b:Bool):DA A H (.bl b) (.bool b)
 |int (i:Int):DA A H (.int i) (.int i)
 |str (x:Str):Qb2 (.str x)=true->DA A H (.str x) (.str x)
 |tup {a:Addr} {xs:List V} {ds:List Qb}:¬A a->H a=some (.tup xs)->DAs A H xs ds->DA A H (.ref a) (.tuple ds)
 |lst {a:Addr} {xs:List V} {ds:List Qb}:¬A a->H a=some (.lst xs)->DAs A H xs ds->DA A H (.ref a) (.list ds)
 |dct {a:Addr} {kvs:List (Int×Int)} {ds:List (Qb×Qb)}:¬A a->H a=some (.dK (dkV kvs))->ds=dkD kvs->DA A H (.ref a) (.dict ds)
inductive DAs (A:Addr->Prop) (H:Hp):List V->List Qb->Prop
 |nil:DAs A H [] []
 |cons {x:V} {xs:List V} {d:Qb} {ds:List Qb}:DA A H x d->DAs A H xs ds->DAs A H (x::xs) (d::ds)
end
mutual
theorem QuY{A A':Addr->Prop}{H H':Hp}(k:∀a o,¬A a->H a=some o->H' a=some o)(m:∀a,A' a->A a∨H a=none):∀(d:Qb)(x:V),DA A H x d->DA A' H' x d
 |.none,_,.non=>.non
 |.bool _,_,.bl _=>.bl _
 |.int _,_,.int _=>.int _
 |.str _,_,.str _ c=>.str _ c
 |.tuple ds,_,.tup (xs:=xs) n e q=>.tup (λz=>(m _ z).elim n λz=>by rw[z] at e;cases e) (k _ _ n e) (Qim k m ds xs q)
 |.list ds,_,.lst (xs:=xs) n e q=>.lst (λz=>(m _ z).elim n λz=>by rw[z] at e;cases e) (k _ _ n e) (Qim k m ds xs q)
 |.dict _,_,.dct n e q=>.dct (λz=>(m _ z).elim n λz=>by rw[z] at e;cases e) (k _ _ n e) q
theorem Qim{A A':Addr->Prop}{H H':Hp}(k:∀a o,¬A a->H a=some o->H' a=some o)(m:∀a,A' a->A a∨H a=none):∀(ds:List Qb)(xs:List V),DAs A H xs ds->DAs A' H' xs ds
 |[],_,.nil=>.nil
 |d::ds,_,.cons (x:=x) (xs:=xs) q qs=>.cons (QuY k m d x q) (Qim k m ds xs qs)
end
theorem DA.mv{A A':Addr->Prop}{H H':Hp}{x:V}{d:Qb}(q:DA A H x d)(k:∀a o,¬A a->H a=some o->H' a=some o)(m:∀a,A' a->A a∨H a=none):DA A' H' x d:=QuY k m d x q
theorem DAs.mv{A A':Addr->Prop}{H H':Hp}{x:List V}{d:List Qb}(q:DAs A H x d)(k:∀a o,¬A a->H a=some o->H' a=some o)(m:∀a,A' a->A a∨H a=none):DAs A' H' x d:=Qim k m d x q
theorem DA.same{A:Addr->Prop}{H H':Hp}{x:V}{d:Qb}(q:DA A H x d)(s:Same H H'):DA A H' x d:=q.mv (λa o _ e=>s a o e) λa z=>.inl z
theorem DAs.same{A:Addr->Prop}{H H':Hp}{x:List V}{d:List Qb}(q:DAs A H x d)(s:Same H H'):DAs A H' x d:=q.mv (λa o _ e=>s a o e) λa z=>.inl z
theorem DAs.length{A:Addr->Prop}{H:Hp}:∀{xs:List V}{ds:List Qb},DAs A H xs ds->xs.length=ds.length
 |_,_,.nil=>rfl
 |_,_,.cons _ q=>by rw[QZ,QZ,q.length]
theorem DAs.get{A:Addr->Prop}{H:Hp}:∀{xs:List V}{ds:List Qb},DAs A H xs ds->∀(i:Nat)(d:Qb),ds[i]? = some d->∃x,xs[i]? = some x/\DA A H x d
 |_,_,.nil,i,x,e=>by simp at e
 |_,_,.cons q qs,0,x,e=>by simp at e;subst e;exact⟨_,rfl,q⟩
 |_,_,.cons q qs,i+1,x,e=>qs.get i x (by simpa using e)
theorem DAs.app{A:Addr->Prop}{H:Hp}:∀{xs ys:List V}{ds es:List Qb},DAs A H xs ds->DAs A H ys es->DAs A H (xs++ys) (ds++es)
 |_,_,_,_,.nil,q=>q
 |_,_,_,_,.cons a b,q=>.cons a (b.app q)
theorem DAs.take{A:Addr->Prop}{H:Hp}:∀{xs:List V}{ds:List Qb},DAs A H xs ds->∀n:Nat,DAs A H (xs.take n) (ds.take n)
 |_,_,.nil,n=>by rw[Qvy,Qvy];exact .nil
 |_,_,.cons a b,0=>.nil
 |_,_,.cons a b,n+1=>.cons a (b.take n)
theorem DAs.drop{A:Addr->Prop}{H:Hp}:∀{xs:List V}{ds:List Qb},DAs A H xs ds->∀n:Nat,DAs A H (xs.drop n) (ds.drop n)
 |_,_,.nil,n=>by rw[Qvz,Qvz];exact .nil
 |_,_,.cons a b,0=>.cons a b
 |_,_,.cons a b,n+1=>b.drop n
theorem DAs.set{A:Addr->Prop}{H:Hp}{x:V}{d:Qb}(q:DA A H x d):∀{xs:List V}{ds:List Qb},DAs A H xs ds->∀n:Nat,DAs A H (xs.set n x) (ds.set n d)
 |_,_,.nil,n=>.nil
 |_,_,.cons a b,0=>.cons q b
 |_,_,.cons a b,n+1=>.cons a (b.set q n)
mutual
def nd:Qb->Bool
 |.dict _=>false
 |.tuple ds=>nds ds
 |.list ds=>nds ds
 |_=>true
def nds:List Qb->Bool
 |[]=>true
 |d::ds=>nd d&&nds ds
end
mutual
theorem Qpb{A:Addr->Prop}{H:Hp}:∀(d:Qb)(x:V),nd d=true->DA A H x d->Dat H x d
 |.none,_,_,.non=>.non
 |.bool _,_,_,.bl _=>.bl _
 |.int _,_,_,.int _=>.int _
 |.str _,_,_,.str _ c=>.str _ c
 |.tuple ds,_,n,.tup (xs:=xs) _ e q=>.tup e (Qam ds xs n q)
 |.list ds,_,n,.lst (xs:=xs) _ e q=>.lst e (Qam ds xs n q)
theorem Qam{A:Addr->Prop}{H:Hp}:∀(ds:List Qb)(xs:List V),nds ds=true->DAs A H xs ds->Dats H xs ds
 |[],_,_,.nil=>.nil
 |d::ds,_,n,.cons (x:=x) (xs:=xs) q qs=>by
  have n':=QU.mp (show(nd d&&nds ds)=true from n);exact .cons (Qpb d x n'.1 q) (Qam ds xs n'.2 qs)
end
theorem Qk0{ds:List Qb}:nds ds=true↔∀d∈ds,nd d=true:=by
 induction ds with
 |nil=>exact⟨(λ_ _ h=>nomatch h),λ_=>rfl⟩
 |cons d ds ih=>
  rw[show nds (d::ds)=(nd d&&nds ds) from rfl,QU,ih];constructor
  ·rintro⟨a,b⟩ e he;rcases Qq.mp he with z | z
   ·rw[z];exact a
   ·exact b e z
  ·intro h;exact⟨h d (by simp),λe he=>h e (by simp[he])⟩
def DP(A P:Addr->Prop)(H:Hp)(v:V)(d:Qb):Prop:=DA A H v d∨∃l xs ds,v=.ref l/\d=.list ds/\¬P l/\H l=some (.lst xs)/\DAs A H xs ds
theorem DP.dat{A P:Addr->Prop}{H:Hp}{v:V}{d:Qb}(h:DP A P H v d)(n:nd d=true):Dat H v d:=by
 rcases h with h | ⟨l,xs,ds,rfl,rfl,_,e,q⟩
 ·exact Qpb d v n h
 ·exact .lst e (Qam ds xs n q)
theorem DP.list{A P:Addr->Prop}{H:Hp}{v:V}{ds:List Qb}(h:DP A P H v (.list ds)):∃l xs,v=.ref l/\H l=some (.lst xs)/\DAs A H xs ds:=by
 rcases h with h | ⟨l,xs,ds',rfl,e,_,h2,q⟩
 ·cases h with | lst n e q=>exact⟨_,_,rfl,e,q⟩
 ·cases e;exact⟨l,xs,rfl,h2,q⟩
theorem DP.tuple{A P:Addr->Prop}{H:Hp}{v:V}{ds:List Qb}(h:DP A P H v (.tuple ds)):∃l xs,v=.ref l/\H l=some (.tup xs)/\DAs A H xs ds:=by
 rcases h with h | ⟨l,xs,ds',rfl,e,_⟩
 ·cases h with | tup n e q=>exact⟨_,_,rfl,e,q⟩
 ·cases e
theorem DP.int{A P:Addr->Prop}{H:Hp}{v:V}{i:Int}(h:DP A P H v (.int i)):v=.int i:=by
 rcases h with h | ⟨l,xs,ds',rfl,e,_⟩
 ·cases h;rfl
 ·cases e
theorem DP.bool{A P:Addr->Prop}{H:Hp}{v:V}{i:Bool}(h:DP A P H v (.bool i)):v=.bl i:=by
 rcases h with h | ⟨l,xs,ds',rfl,e,_⟩
 ·cases h;rfl
 ·cases e
theorem DP.none{A P:Addr->Prop}{H:Hp}{v:V}(h:DP A P H v .none):v=.non:=by
 rcases h with h | ⟨l,xs,ds',rfl,e,_⟩
 ·cases h;rfl
 ·cases e
theorem DP.str{A P:Addr->Prop}{H:Hp}{v:V}{x:Str}(h:DP A P H v (.str x)):v=.str x/\Qb2 (.str x)=true:=by
 rcases h with h | ⟨l,xs,ds',rfl,e,_⟩
 ·cases h with | str _ c=>exact⟨rfl,c⟩
 ·cases e
inductive Sl where
 |no | pot | scr
 |v (d:Qb)
 |own (ds:List Qb)
 |pk (ds:List Qb)
abbrev Sts:=List Sl
structure Fm where
 H0:Hp
 A0:Addr->Prop
 pt:Addr->Prop
def Qyd(σ:L2.St)(δ:Sts)(i:Nat)(a:Addr):Prop:=σ[i]? = some (some (.ref a))/\(δ[i]? = some .pot∨∃ds,δ[i]? = some (.own ds))
def Av(F:Fm)(σ:L2.St)(δ:Sts)(a:Addr):Prop:=F.A0 a∨∃i,Qyd σ δ i a
def ZO(σ:L2.St)(δ:Sts)(a:Addr):Prop:=∃i:Nat,σ[i]? = some (some (.ref a))/\δ[i]? = some .pot
def Qyb(K:PySem.W.Frag)(F:Fm)(H:Hp)(A:Addr->Prop)(o:Option V):Sl->Prop
 |.no=>True
 |.v d=>∃v,o=some v/\DA A H v d
 |.own ds=>∃l xs,o=some (.ref l)/\H l=some (.lst xs)/\DAs A H xs ds/\F.H0 l=none
 |.pk ds=>∃l xs,o=some (.ref l)/\H l=some (.lst xs)/\DAs A H xs ds/\∃ys,F.H0 l=some (.lst ys)/\¬F.pt l
 |.pot=>∃p n,o=some (.ref p)/\H p=some (.lst [.int n])/\(F.pt p∨F.H0 p=none)
 |.scr=>∃a ns,o=some (.ref a)/\SqL K F.H0 a ((ns:List Int).map V.int)/\¬F.pt a/\ns.length<=63
structure Rel (K:PySem.W.Frag) (F:Fm) (σ:L2.St) (H:Hp) (δ:Sts):Prop where
 len:σ.length=δ.length
 dom:∀a,F.A0 a->∃xs,H a=some (.lst xs)
 dom0:∀a,F.A0 a->∃xs,F.H0 a=some (.lst xs)
 pt0:∀p,F.pt p->F.A0 p/\∃n,H p=some (.lst [.int n])
 kx:∀b o,¬F.pt b->F.H0 b=some o->H b=some o
 sl:∀(i:Nat) o x,σ[i]? = some o->δ[i]? = some x->Qyb K F H (Av F σ δ) o x
 inj:∀(i j:Nat) a ds,δ[i]? = some (.own ds)->σ[i]? = some (some (.ref a))->Qyd σ δ j a->i=j
def Kp(σ:L2.St)(δ:Sts)(H H':Hp):Prop:=(∀b o,¬ZO σ δ b->H b=some o->H' b=some o)/\∀b,ZO σ δ b->∃n,H' b=some (.lst [.int n])
def Stp(F:Fm)(σ:L2.St)(H:Hp)(δ:Sts)(σ':L2.St)(H':Hp)(δ':Sts):Prop:=(∀b o,¬Av F σ δ b->H b=some o->H' b=some o)/\∀b,Av F σ' δ' b->Av F σ δ b∨H b=none
def Ke(F:Fm)(H':Hp):Prop:=(∀b o,¬F.pt b->F.H0 b=some o->H' b=some o)/\∀p,F.pt p->∃n,H' p=some (.lst [.int n])
theorem YN{F:Fm}{σ:L2.St}{δ:Sts}{a:Addr}(h:ZO σ δ a):Av F σ δ a:=let ⟨i,h1,h2⟩:=h;.inr ⟨i,h1,.inl h2⟩
theorem Rel.ke{K:PySem.W.Frag}{F:Fm}{σ:L2.St}{H:Hp}{δ:Sts}(r:Rel K F σ H δ):Ke F H:=⟨r.kx,λp hp=>(r.pt0 p hp).2⟩
theorem Rel.isl{K:PySem.W.Frag}{F:Fm}{σ:L2.St}{H:Hp}{δ:Sts}(r:Rel K F σ H δ){a:Addr}(h:Av F σ δ a):∃xs,H a=some (.lst xs):=by
 rcases h with h | ⟨i,h1,h2⟩
 ·exact r.dom a h
 ·rcases h2 with h2 | ⟨ds,h2⟩
  ·obtain⟨p,n,e,h,_⟩:=r.sl i _ _ h1 h2;cases e;exact⟨_,h⟩
  ·obtain⟨l,xs,e,h,_⟩:=r.sl i _ _ h1 h2;cases e;exact⟨_,h⟩
theorem Kp.refl{K:PySem.W.Frag}{F:Fm}{σ:L2.St}{H:Hp}{δ:Sts}(r:Rel K F σ H δ):Kp σ δ H H:=⟨λ_ _ _ e=>e,λb ⟨i,h1,h2⟩=>by
 obtain⟨p,n,e,h,_⟩:=r.sl i _ _ h1 h2;cases e;exact⟨n,h⟩⟩
theorem Kp.trans{σ:L2.St}{δ:Sts}{H H1 H2:Hp}(a:Kp σ δ H H1)(b:Kp σ δ H1 H2):Kp σ δ H H2:=⟨λc o n e=>b.1 c o n (a.1 c o n e),b.2⟩
theorem Kp.same{K:PySem.W.Frag}{F:Fm}{σ:L2.St}{H H':Hp}{δ:Sts}(r:Rel K F σ H δ)(s:Same H H'):Kp σ δ H H':=⟨λb o _ e=>s b o e,λb hb=>let ⟨n,h⟩:=(Kp.refl r).2 b hb;⟨n,s _ _ h⟩⟩
theorem Kp.da{F:Fm}{σ:L2.St}{H H':Hp}{δ:Sts}{v:V}{d:Qb}(k:Kp σ δ H H')(h:DA (Av F σ δ) H v d):DA (Av F σ δ) H' v d:=h.mv (λa o n e=>k.1 a o (λz=>n (YN z)) e) λa z=>.inl z
theorem Kp.das{F:Fm}{σ:L2.St}{H H':Hp}{δ:Sts}{v:List V}{d:List Qb}(k:Kp σ δ H H')(h:DAs (Av F σ δ) H v d):DAs (Av F σ δ) H' v d:=h.mv (λa o n e=>k.1 a o (λz=>n (YN z)) e) λa z=>.inl z
theorem Kp.dp{F:Fm}{σ:L2.St}{H H':Hp}{δ:Sts}{v:V}{d:Qb}(k:Kp σ δ H H')(h:DP (Av F σ δ) (ZO σ δ) H v d):DP (Av F σ δ) (ZO σ δ) H' v d:=by
 rcases h with h | ⟨l,xs,ds,e1,e2,n,e,q⟩
 ·exact .inl (k.da h)
 ·exact .inr ⟨l,xs,ds,e1,e2,n,k.1 _ _ n e,k.das q⟩
theorem Rel.own_pot{K:PySem.W.Frag}{F:Fm}{σ:L2.St}{H:Hp}{δ:Sts}(r:Rel K F σ H δ){i:Nat}{ds:List Qb}{l:Addr}(h:δ[i]? = some (.own ds))(e:σ[i]? = some (some (.ref l))):¬ZO σ δ l:=by
 rintro⟨j,h1,h2⟩;have:=r.inj i j l _ h e ⟨h1,.inl h2⟩;subst this;rw[h] at h2;cases h2
theorem Rel.pt_pot{K:PySem.W.Frag}{F:Fm}{σ:L2.St}{H H':Hp}{δ:Sts}(r:Rel K F σ H δ)(k:Kp σ δ H H'){p:Addr}(hp:F.pt p):∃n,H' p=some (.lst [.int n]):=by
 by_cases z:ZO σ δ p
 ·exact k.2 p z
 ·obtain⟨n,e⟩:=(r.pt0 p hp).2;exact⟨n,k.1 _ _ z e⟩
theorem Rel.kp{K:PySem.W.Frag}{F:Fm}{σ:L2.St}{H H':Hp}{δ:Sts}(r:Rel K F σ H δ)(k:Kp σ δ H H'):Rel K F σ H' δ where
 len:=r.len
 dom:=λa ha=>by
  by_cases z:ZO σ δ a
  ·exact⟨_,(k.2 a z).choose_spec⟩
  ·obtain⟨xs,e⟩:=r.dom a ha;exact⟨xs,k.1 _ _ z e⟩
 dom0:=r.dom0
 pt0:=λp hp=>⟨(r.pt0 p hp).1,r.pt_pot k hp⟩
 kx:=λb o n e=>by
  by_cases z:ZO σ δ b
  ·obtain⟨i,h1,h2⟩:=z;obtain⟨p,m,e1,h,q⟩:=r.sl i _ _ h1 h2;cases e1;rcases q with q | q
   ·exact absurd q n
   ·rw[q] at e;cases e
  ·exact k.1 _ _ z (r.kx b o n e)
 sl:=λi o x h1 h2=>by
  have h:=r.sl i o x h1 h2;cases x with
  |no=>trivial
  |v d=>obtain⟨v,e,q⟩:=h;exact⟨v,e,k.da q⟩
  |own ds=>obtain⟨l,xs,rfl,e,q,f⟩:=h;exact⟨l,xs,rfl,k.1 _ _ (r.own_pot h2 h1) e,k.das q,f⟩
  |pk ds=>
   obtain⟨l,xs,rfl,e,q,ys,f,f2⟩:=h;refine⟨l,xs,rfl,k.1 _ _ ?_ e,k.das q,ys,f,f2⟩;rintro⟨j,j1,j2⟩;obtain⟨p,m,e1,_,w⟩:=r.sl j _ _ j1 j2;cases e1;rcases w with w | w
   ·exact f2 w
   ·rw[w] at f;cases f
  |pot=>
   obtain⟨p,n,rfl,e,q⟩:=h;obtain⟨m,e'⟩:=k.2 p ⟨i,h1,h2⟩;exact⟨p,m,rfl,e',q⟩
  |scr=>exact h
 inj:=r.inj
theorem Rel.same{K:PySem.W.Frag}{F:Fm}{σ:L2.St}{H H':Hp}{δ:Sts}(r:Rel K F σ H δ)(s:Same H H'):Rel K F σ H' δ:=r.kp (Kp.same r s)
theorem Stp.refl{F:Fm}{σ:L2.St}{H:Hp}{δ:Sts}:Stp F σ H δ σ H δ:=⟨λ_ _ _ e=>e,λ_ z=>.inl z⟩
theorem Stp.trans{F:Fm}{σ σ1 σ2:L2.St}{H H1 H2:Hp}{δ δ1 δ2:Sts}(a:Stp F σ H δ σ1 H1 δ1)(b:Stp F σ1 H1 δ1 σ2 H2 δ2):Stp F σ H δ σ2 H2 δ2:=by
 refine⟨λc o n e=>?_,λc z=>?_⟩
 ·refine b.1 c o (λz=>?_) (a.1 c o n e);rcases a.2 c z with q | q
  ·exact n q
  ·rw[q] at e;cases e
 ·rcases b.2 c z with q | q
  ·exact a.2 c q
  ·by_cases y:Av F σ δ c
   ·exact .inl y
   ·right
    cases e:H c with
    |none=>rfl
    |some o=>rw[a.1 c o y e] at q;cases q
theorem Stp.kp{F:Fm}{σ:L2.St}{H H':Hp}{δ:Sts}(k:Kp σ δ H H'):Stp F σ H δ σ H' δ:=⟨λb o n e=>k.1 b o (λz=>n (YN z)) e,λ_ z=>.inl z⟩
theorem Stp.da{F:Fm}{σ σ':L2.St}{H H':Hp}{δ δ':Sts}{v:V}{d:Qb}(k:Stp F σ H δ σ' H' δ')(h:DA (Av F σ δ) H v d):DA (Av F σ' δ') H' v d:=h.mv k.1 k.2
theorem Stp.das{F:Fm}{σ σ':L2.St}{H H':Hp}{δ δ':Sts}{v:List V}{d:List Qb}(k:Stp F σ H δ σ' H' δ')(h:DAs (Av F σ δ) H v d):DAs (Av F σ' δ') H' v d:=h.mv k.1 k.2
abbrev XP:=Addr->Prop
abbrev DE:=Sts->(Qb->Prop)->XP->Prop
abbrev DT:=Sts->(Bool->Prop)->XP->Prop
abbrev DAr:=Sts->(List Qb->Prop)->XP->Prop
abbrev DSl:=Sts->(List Sl->Prop)->XP->Prop
inductive Md where | D | P | F
def FrV(H H':Hp)(v:V):Prop:=∀l,v=.ref l->(∃xs,H' l=some (.lst xs))->H l=none
def Vok(m:Md)(F:Fm)(σ:L2.St)(δ:Sts)(H H':Hp)(v:V)(d:Qb):Prop:=
 match m with
 |.D=>DA (Av F σ δ) H' v d
 |.P=>DP (Av F σ δ) (ZO σ δ) H' v d
 |.F=>DA (Av F σ δ) H' v d/\FrV H H' v
def Out(F:Fm)(E:XK)(EX:XP):Prop:=∀C,EX C->∀H',Ke F H'->E (.ref C) none H'
def tX(m:Md)(K:PySem.W.Frag)(E:XK)(w:DE):TE:=λσ H Q=>∃(F:Fm)(δ:Sts)(R:Qb->Prop)(EX:XP),Rel K F σ H δ/\w δ R EX/\(∀d,R d->∀v H',Rel K F σ H' δ->Kp σ δ H H'->Vok m F σ δ H H' v d->Q v H')/\Out F E EX
def tT(K:PySem.W.Frag)(E:XK)(w:DT):TT:=λσ H Q=>∃(F:Fm)(δ:Sts)(R:Bool->Prop)(EX:XP),Rel K F σ H δ/\w δ R EX/\(∀b,R b->∀H',Rel K F σ H' δ->Kp σ δ H H'->Q b H')/\Out F E EX
def VD(m:Md)(A P:Addr->Prop)(H:Hp)(v:V)(d:Qb):Prop:=
 match m with
 |.P=>DP A P H v d
 |_=>DA A H v d
def tAr(n:Nat)(m:Md)(K:PySem.W.Frag)(E:XK)(w:DAr):TA:=λσ H Q=>∃(F:Fm)(δ:Sts)(R:List Qb->Prop)(EX:XP),Rel K F σ H δ/\w δ R EX/\(∀ds,R ds->ds.length=n->∀vs H',Rel K F σ H' δ->Kp σ δ H H'->Qap (VD m (Av F σ δ) (ZO σ δ) H') vs ds->Q vs H')/\Out F E EX
def Qjm(A pt:Addr->Prop)(H:Hp)(v:V):Sl->Prop
 |.v d=>DA A H v d
 |.pot=>∃p,v=.ref p/\pt p
 |_=>False
def tAs(K:PySem.W.Frag)(E:XK)(w:DSl):TA:=λσ H Q=>∃(F:Fm)(δ:Sts)(R:List Sl->Prop)(EX:XP),Rel K F σ H δ/\w δ R EX/\(∀ds,R ds->∀vs H',Rel K F σ H' δ->Kp σ δ H H'->Qap (Qjm (Av F σ δ) (ZO σ δ) H') vs ds->Q vs H')/\Out F E EX
theorem Kp.vd{m:Md}{F:Fm}{σ:L2.St}{H H':Hp}{δ:Sts}{v:V}{d:Qb}(k:Kp σ δ H H')(h:VD m (Av F σ δ) (ZO σ δ) H v d):VD m (Av F σ δ) (ZO σ δ) H' v d:=by
 cases m
 ·exact k.da h
 ·exact k.dp h
 ·exact k.da h
theorem Kp.arg{F:Fm}{σ:L2.St}{H H':Hp}{δ:Sts}{v:V}{d:Sl}(k:Kp σ δ H H')(h:Qjm (Av F σ δ) (ZO σ δ) H v d):Qjm (Av F σ δ) (ZO σ δ) H' v d:=by
 cases d with
 |v d=>exact k.da h
 |pot=>exact h
 |_=>exact h.elim
def Qcn(H:Hp):Prop:=∀a xs,H a=some (.lst xs)∨H a=some (.tup xs)->xs.length<=sizeLine
section
variable{X:Cx}{E:XK}
theorem Inv.lens{pins:List (Addr×Obj)}{σ:L2.St}{H:Hp}{s:Shared}(I:Inv X pins σ H s):Qcn H:=λa xs h=>by
 rcases h with h | h
 ·exact(I.hok a _ h).1
 ·exact(I.hok a _ h).1
theorem PE.imp{e:QR}{t t':TE}(h:PE X e t)(i:∀σ H Q,t' σ H Q->t σ H Q):PE X e t':=λpins s σ H Q I q=>h pins s σ H Q I (i σ H Q q)
theorem PT.imp{e:QR}{t t':TT}(h:PT X e t)(i:∀σ H Q,t' σ H Q->t σ H Q):PT X e t':=λpins s σ H Q I q=>h pins s σ H Q I (i σ H Q q)
theorem PW.imp{e:QR}{t t':TT}(h:PW X e t)(i:∀σ H Q,t' σ H Q->t σ H Q):PW X e t':=λwh pins s σ H Q I q=>h wh pins s σ H Q I (i σ H Q q)
theorem PA.imp{e:List QR}{t t':TA}(h:PA X e t)(i:∀σ H Q,t' σ H Q->t σ H Q):PA X e t':=λpos pins s σ H Q I q=>h pos pins s σ H Q I (i σ H Q q)
theorem OpR.len{f:Value->Value->Sem Value}{r:R2}(h:OpR X f r):OpR X f (λx y H Q=>Qcn H->r x y H Q):=λpins s σ H x y v u Q I rx ry q=>h pins s σ H x y v u Q I rx ry (q (Inv.lens I))
theorem CallR.len{f:Value}{r:List V->Hp->VK->Prop}(h:CallR X f r):CallR X f (λxs H Q=>Qcn H->r xs H Q):=λpins s σ H xs us Q I rx q=>h pins s σ H xs us Q I rx (q (Inv.lens I))
theorem IxR.len{r:R2}(h:IxR X r):IxR X (λx y H Q=>Qcn H->r x y H Q):=λa b pins s σ H x y v u Q I rx ry q hs=>h a b pins s σ H x y v u Q I rx ry (q (Inv.lens I)) hs
theorem OpR.or2{f:Value->Value->Sem Value}{r r':R2}(h:OpR X f r)(h':OpR X f r'):OpR X f (λx y H Q=>r x y H Q∨r' x y H Q):=OpR.or h h'
theorem IxR.or2{r r':R2}(h:IxR X r)(h':IxR X r'):IxR X (λx y H Q=>r x y H Q∨r' x y H Q):=λa b pins s σ H x y v u Q I rx ry q hs=>q.elim (λq=>h a b pins s σ H x y v u Q I rx ry q hs) λq=>h' a b pins s σ H x y v u Q I rx ry q hs
theorem SlR.or2{r r':V->Option Int->Option Int->Hp->VK->Prop}(h:SlR X r)(h':SlR X r'):SlR X (λx a b H Q=>r x a b H Q∨r' x a b H Q):=λpins s σ H x v vl vu lo hi sl Q I rx hs pl pu q=>q.elim (h pins s σ H x v vl vu lo hi sl Q I rx hs pl pu) (h' pins s σ H x v vl vu lo hi sl Q I rx hs pl pu)
theorem toD{e:QR}{w:DE}(h:PE X e (tX .F X.K E w)):PE X e (tX .D X.K E w):=PE.imp h λσ H Q ⟨F,δ,R,EX,r,hw,k,o⟩=>⟨F,δ,R,EX,r,hw,λd hd v H' r' kp vk=>k d hd v H' r' kp vk.1,o⟩
theorem toP{e:QR}{w:DE}(h:PE X e (tX .D X.K E w)):PE X e (tX .P X.K E w):=PE.imp h λσ H Q ⟨F,δ,R,EX,r,hw,k,o⟩=>⟨F,δ,R,EX,r,hw,λd hd v H' r' kp vk=>k d hd v H' r' kp (.inl vk),o⟩
theorem Qyh{e:QR}{w:DE}(h:PE X e (tX .F X.K E w)):PE X e (tX .P X.K E w):=toP (toD h)
def Qxp(i:Nat):DE:=λδ Q _=>match δ[i]? with
 |some (.v d)=>Q d
 |_=>False
def dPk(i:Nat):DE:=λδ Q _=>match δ[i]? with
 |some (.v d)=>Q d
 |some (.own ds)=>Q (.list ds)
 |some (.pk ds)=>Q (.list ds)
 |_=>False
def dC(d:Qb):DE:=λ_ Q _=>Q d
theorem Rel.lt{K:PySem.W.Frag}{F:Fm}{σ:L2.St}{H:Hp}{δ:Sts}(r:Rel K F σ H δ){i:Nat}{x:Sl}(h:δ[i]? = some x):∃o,σ[i]? = some o:=by
 have:=(Jm.mp h).1;exact⟨σ[i]'(by rw[r.len];exact this),Qf _⟩
theorem Qt1{e:QR}{i:Nat}(h:PE X e (Qde i)):PE X e (tX .D X.K E (Qxp i)):=PE.imp h λσ H Q ⟨F,δ,R,EX,r,hw,k,o⟩=>by
 unfold Qxp at hw;split at hw
 ·rename_i d hd
  obtain⟨x,hx⟩:=r.lt hd;obtain⟨v,rfl,q⟩:=r.sl i _ _ hx hd;exact⟨v,hx,k d hw v H r (Kp.refl r) q⟩
 ·exact hw.elim
theorem QwM{e:QR}{i:Nat}(h:PE X e (Qde i)):PE X e (tX .P X.K E (dPk i)):=PE.imp h λσ H Q ⟨F,δ,R,EX,r,hw,k,o⟩=>by
 unfold dPk at hw;split at hw
 ·rename_i d hd
  obtain⟨x,hx⟩:=r.lt hd;obtain⟨v,rfl,q⟩:=r.sl i _ _ hx hd;exact⟨v,hx,k d hw v H r (Kp.refl r) (.inl q)⟩
 ·rename_i d hd
  obtain⟨x,hx⟩:=r.lt hd;obtain⟨l,xs,rfl,e,q,_⟩:=r.sl i _ _ hx hd;exact⟨_,hx,k _ hw _ H r (Kp.refl r) (.inr ⟨l,xs,d,rfl,rfl,r.own_pot hd hx,e,q⟩)⟩
 ·rename_i d hd
  obtain⟨x,hx⟩:=r.lt hd;obtain⟨l,xs,rfl,e,q,ys,f,f2⟩:=r.sl i _ _ hx hd;refine⟨_,hx,k _ hw _ H r (Kp.refl r) (.inr ⟨l,xs,d,rfl,rfl,?_,e,q⟩)⟩;rintro⟨j,j1,j2⟩;obtain⟨p,m,e1,_,w⟩:=r.sl j _ _ j1 j2;cases e1;rcases w with w | w
  ·exact f2 w
  ·rw[w] at f;cases f
 ·exact hw.elim
theorem QwP{e:QR}{v:V}{d:Qb}(h:PE X e (tC v))(q:∀(A:Addr->Prop)(H:Hp),DA A H v d):PE X e (tX .D X.K E (dC d)):=PE.imp h λσ H Q ⟨F,δ,R,EX,r,hw,k,o⟩=>k d hw v H r (Kp.refl r) (q _ _)
theorem Qt7{i:Int}{j pos}:PE X (.Constant (.int i) j pos) (tX .D X.K E (dC (.int i))):=QwP Zq λ_ _=>.int i
theorem QwQ{b:Bool}{j pos}:PE X (.Constant (.bool b) j pos) (tX .D X.K E (dC (.bool b))):=QwP QtY λ_ _=>.bl b
def OpD(r:R2)(rD:Qb->Qb->(Qb->Prop)->Prop):Prop:=∀(A P:Addr->Prop)(H:Hp)(x y:V)(d1 d2:Qb)(R:Qb->Prop)(Q:VK),Qcn H->(∀a,A a->∃xs,H a=some (.lst xs))->DP A P H x d1->DP A P H y d2->rD d1 d2 R ->
 (∀d,R d->∀v H',Same H H'->DA A H' v d->FrV H H' v->Q v H')->r x y H Q
def QsI(r:R2)(rD:Qb->Qb->(Qb->Prop)->Prop):Prop:=∀(A P:Addr->Prop)(H:Hp)(x y:V)(d1 d2:Qb)(R:Qb->Prop)(Q:VK),Qcn H->(∀a,A a->∃xs,H a=some (.lst xs))->DP A P H x d1->DP A P H y d2->rD d1 d2 R ->
 (∀d,R d->∀v H',Same H H'->DA A H' v d->Q v H')->r x y H Q
def dOp(rD:Qb->Qb->(Qb->Prop)->Prop)(wa wb:DE):DE:=λδ Q EX=>wa δ (λd1=>wb δ (λd2=>rD d1 d2 Q) EX) EX
theorem Qg9{K:PySem.W.Frag}{r:R2}{rD:Qb->Qb->(Qb->Prop)->Prop}{wa wb:DE}(hd:OpD r rD)(σ:L2.St)(H:Hp)(Q:VK)(h:tX .F K E (dOp rD wa wb) σ H Q) :
  tOp (λx y H Q=>Qcn H->r x y H Q) (tX .P K E wa) (tX .P K E wb) σ H Q:=by
 obtain⟨F,δ,R,EX,rel,hw,k,o⟩:=h;refine⟨F,δ,_,EX,rel,hw,λd1 h1 x H1 rel1 kp1 x1=>⟨F,δ,_,EX,rel1,h1,λd2 h2 y H2 rel2 kp2 y2=>λln=>?_,o⟩,o⟩;refine hd (Av F σ δ) (ZO σ δ) H2 x y d1 d2 R Q ln (λa ha=>rel2.isl ha) (kp2.dp x1) y2 h2 λd hR v H' s q f=>?_
 refine k d hR v H' (rel2.same s) ((kp1.trans kp2).trans (Kp.same rel2 s)) ⟨q,λl e1 e2=>?_⟩;have f2:=f l e1 e2;cases e:H l with
 |none=>rfl
 |some ob=>
  by_cases z:ZO σ δ l
  ·obtain⟨n,en⟩:=kp2.2 l z;rw[en] at f2;cases f2
  ·rw[(kp1.trans kp2).1 _ _ z e] at f2;cases f2
theorem Qnj{K:PySem.W.Frag}{r:R2}{rD:Qb->Qb->(Qb->Prop)->Prop}{wa wb:DE}(hd:QsI r rD)(σ:L2.St)(H:Hp)(Q:VK)(h:tX .D K E (dOp rD wa wb) σ H Q) :
  tOp (λx y H Q=>Qcn H->r x y H Q) (tX .P K E wa) (tX .P K E wb) σ H Q:=by
 obtain⟨F,δ,R,EX,rel,hw,k,o⟩:=h;refine⟨F,δ,_,EX,rel,hw,λd1 h1 x H1 rel1 kp1 x1=>⟨F,δ,_,EX,rel1,h1,λd2 h2 y H2 rel2 kp2 y2=>λln=>?_,o⟩,o⟩;refine hd (Av F σ δ) (ZO σ δ) H2 x y d1 d2 R Q ln (λa ha=>rel2.isl ha) (kp2.dp x1) y2 h2 λd hR v H' s q=>?_
 exact k d hR v H' (rel2.same s) ((kp1.trans kp2).trans (Kp.same rel2 s)) q
variable{a b:QR}{wa wb:DE}{pos:Pos}{r:R2}{rD:Qb->Qb->(Qb->Prop)->Prop}
theorem Qt9{op:QeE}(ho:OpR X (binaryOp op) r)(hd:OpD r rD)(ha:PE X a (tX .P X.K E wa))(hb:PE X b (tX .P X.K E wb)):PE X (.BinOp a op b pos) (tX .F X.K E (dOp rD wa wb)):=PE.imp (QaL (OpR.len ho) ha hb) (Qg9 hd)
theorem Qt8{op:Qpw}(ho:OpR X (compareOp op) r)(hd:OpD r rD)(ha:PE X a (tX .P X.K E wa))(hb:PE X b (tX .P X.K E wb))(hm:behindInMarks op b=false):PE X (.Compare a [op] [b] pos) (tX .F X.K E (dOp rD wa wb)):=PE.imp (Qg7 (OpR.len ho) ha hb hm) (Qg9 hd)
theorem QwN{r:R2}{rD:Qb->Qb->(Qb->Prop)->Prop}(ho:IxR X r)(hd:QsI r rD)(ha:PE X a (tX .P X.K E wa))(hb:PE X b (tX .P X.K E wb))(hs:QhG b):PE X (.Subscript a b pos) (tX .D X.K E (dOp rD wa wb)):=PE.imp (Qe5 (IxR.len ho) ha hb hs) (Qnj hd)
def dTst(w:DE):DT:=λδ Q EX=>w δ (λd=>match d with
 |.bool k=>Q k
 |_=>False) EX
theorem Qrk{op:Qpw}(ho:OpR X (compareOp op) r)(hd:OpD r rD)(ha:PE X a (tX .P X.K E wa))(hb:PE X b (tX .P X.K E wb))(hm:behindInMarks op b=false):PT X (.Compare a [op] [b] pos) (tT X.K E (dTst (dOp rD wa wb))):=by
 refine PT.imp (Qbl (OpR.len ho) ha hb hm) λσ H Q ⟨F,δ,R,EX,rel,hw,k,o⟩=>?_
 refine Qg9 hd σ H (λx H'=>∃k,x=.bl k/\Q k H') ⟨F,δ,_,EX,rel,hw,λd hd2 v H' rel' kp vk=>?_,o⟩;split at hd2
 ·rename_i b
  have:v=.bl b:=by cases vk.1;rfl
  exact⟨b,this,k b hd2 H' rel' kp⟩
 ·exact hd2.elim
def tru:Qb->Bool
 |.none=>false
 |.bool b=>b
 |.int i=>i != 0
 |.str y=>(y.length:Int) != 0
 |.list ds => !ds.isEmpty
 |.tuple ds => !ds.isEmpty
 |.dict ds => !ds.isEmpty
def strOk:Qb->Prop
 |.str y=>y.length<=sizeLine
 |_=>True
def dTru(w:DE):DT:=λδ Q EX=>w δ (λd=>strOk d/\Q (tru d)) EX
theorem Qth{K:PySem.W.Frag}{A P:Addr->Prop}{H:Hp}{v:V}{d:Qb}(h:DP A P H v d)(hs:strOk d):Qxy K v H (tru d):=by
 have sq:∀{xs:List V}{ds:List Qb},DAs A H xs ds->(!ds.isEmpty) = !xs.isEmpty:=λq=>by cases q<;>rfl
 rcases h with h | ⟨l,xs,ds,rfl,rfl,_,e,q⟩
 ·cases h with
  |non=>rfl
  |bl b=>rfl
  |int i=>rfl
  |str x c=>exact⟨hs,rfl⟩
  |@tup a xs ds n e q=>exact .inr (.inl ⟨xs,SqT.of e,sq q⟩)
  |@lst a xs ds n e q=>exact .inl ⟨xs,SqL.of e,sq q⟩
  |@dct a kvs ds n e q=>subst q;exact .inr (.inr ⟨dkV kvs,e,by cases kvs<;>rfl⟩)
 ·exact .inl ⟨xs,SqL.of e,sq q⟩
theorem Qri{e:QR}{w:DE}(h:PE X e (tX .P X.K E w))(he:∀whole,isTrue e X.env whole=(do let v <- whole;standAt e.pos;holding [v] (truthy v))):PT X e (tT X.K E (dTru w)):=by
 refine PT.imp (QmM h he) λσ H Q ⟨F,δ,R,EX,rel,hw,k,o⟩=>?_
 exact⟨F,δ,_,EX,rel,hw,λd ⟨hs,hq⟩ v H' rel' kp vk=>⟨tru d,Qth vk hs,k _ hq H' rel' kp⟩,o⟩
theorem Qrh{e:QR}{w:DE}(h:PE X e (tX .P X.K E w))(he:∀whole,isTrue e X.env whole=(do let v <- whole;standAt e.pos;holding [v] (truthy v)):=by intro _;rfl):PT X e (tT X.K E (dTst w)):=by
 refine PT.imp (Qkn h he) λσ H Q ⟨F,δ,R,EX,rel,hw,k,o⟩=>?_
 refine⟨F,δ,_,EX,rel,hw,λd hd v H' rel' kp vk=>?_,o⟩;split at hd
 ·exact⟨_,DP.bool vk,k _ hd H' rel' kp⟩
 ·exact hd.elim
def dOr(wa wb:DT):DT:=λδ Q EX=>wa δ (λc=>if c=true then Q true else wb δ Q EX) EX
def Qx3(wa:DT):DT:=λδ Q EX=>wa δ (λc=>Q (!c)) EX
theorem Qdy{c:Prop}[Decidable c]{p q p' q':Prop}(h:if c then p else q)(h1:p->p')(h2:q->q'):if c then p' else q':=by
 split at h
 ·rw[if_pos (by assumption)];exact h1 h
 ·rw[if_neg (by assumption)];exact h2 h
variable{rest:List QR}{ta tb:DT}
theorem Qrg(ha:PT X a (tT X.K E ta)):PW X (.BoolOp .Or [a] pos) (tT X.K E ta):=QoE ha
theorem QtZ(ha:PT X a (tT X.K E ta))(hb:PW X (.BoolOp .Or (b::rest) pos) (tT X.K E tb)):PW X (.BoolOp .Or (a::b::rest) pos) (tT X.K E (dOr ta tb)):=by
 refine PW.imp (Qp8 ha hb) λσ H Q ⟨F,δ,R,EX,rel,hw,k,o⟩=>?_
 refine⟨F,δ,_,EX,rel,hw,λc hc H' rel' kp=>?_,o⟩;exact Qdy hc (λz=>k _ z H' rel' kp) (λz=>⟨F,δ,R,EX,rel',z,λc hc H2 rel2 kp2=>k c hc H2 rel2 (kp.trans kp2),o⟩)
theorem Qrj(ha:PT X a (tT X.K E ta)):PT X (.UnaryOp .Not a pos) (tT X.K E (Qx3 ta)):=by
 refine PT.imp (Qko ha) λσ H Q ⟨F,δ,R,EX,rel,hw,k,o⟩=>?_
 exact⟨F,δ,_,EX,rel,hw,λc hc H' rel' kp=>k _ hc H' rel' kp,o⟩
def Qu9(wa wb:DE):DE:=λδ Q EX=>wa δ (λd=>match d with
 |.bool c=>if c=true then wb δ Q EX else Q (.bool false)
 |_=>False) EX
def Qu6(wa:DE):DE:=λδ Q EX=>wa δ (λd=>match d with
 |.bool c=>Q (.bool (!c))
 |_=>False) EX
theorem Qt3{op}{w:DE}(h:PE X a (tX .D X.K E w)):PE X (.BoolOp op [a] pos) (tX .D X.K E w):=QoJ h
theorem Qua(ha:PE X a (tX .P X.K E wa))(hb:PE X (.BoolOp .And (b::rest) pos) (tX .D X.K E wb)):PE X (.BoolOp .And (a::b::rest) pos) (tX .D X.K E (Qu9 wa wb)):=by
 refine PE.imp (QoL ha hb) λσ H Q ⟨F,δ,R,EX,rel,hw,k,o⟩=>?_
 refine⟨F,δ,_,EX,rel,hw,λd hd v H' rel' kp vk=>?_,o⟩;split at hd
 ·exact⟨_,DP.bool vk,Qdy hd (λz=>⟨F,δ,R,EX,rel',z,λd hd v H2 rel2 kp2=>k d hd v H2 rel2 (kp.trans kp2),o⟩) λz=>k _ z _ H' rel' kp (.bl _)⟩
 ·exact hd.elim
theorem Qt4(ha:PE X a (tX .P X.K E wa)):PE X (.UnaryOp .Not a pos) (tX .D X.K E (Qu6 wa)):=by
 refine PE.imp (QtX ha) λσ H Q ⟨F,δ,R,EX,rel,hw,k,o⟩=>?_
 refine⟨F,δ,_,EX,rel,hw,λd hd v H' rel' kp vk=>?_,o⟩;split at hd
 ·exact⟨_,DP.bool vk,k _ hd _ H' rel' kp (.bl _)⟩
 ·exact hd.elim
end
theorem Qce{A:Addr->Prop}{H H':Hp}{l:Addr}{xs:List V}{ds:List Qb}(dm:∀a,A a->∃xs,H a=some (.lst xs))(s:Same H H')(n:H l=none)(e:H' l=some (.lst xs))(q:DAs A H xs ds):DA A H' (.ref l) (.list ds):=
 .lst (λz=>by obtain⟨ys,e'⟩:=dm l z;rw[n] at e';cases e') e (q.same s)
theorem QfP{A:Addr->Prop}{H H':Hp}{l:Addr}{xs:List V}{ds:List Qb}(dm:∀a,A a->∃xs,H a=some (.lst xs))(s:Same H H')(e:H' l=some (.tup xs))(q:DAs A H xs ds):DA A H' (.ref l) (.tuple ds):=
 .tup (λz=>by obtain⟨ys,e'⟩:=dm l z;rw[s _ _ e'] at e;cases e) e (q.same s)
theorem YI{H H':Hp}{l:Addr}(n:H l=none):FrV H H' (.ref l):=λl' e _=>by cases e;exact n
theorem Qdz{H H':Hp}{l:Addr}{xs:List V}(e:H' l=some (.tup xs)):FrV H H' (.ref l):=λl' e1 ⟨ys,e2⟩=>by cases e1;rw[e] at e2;cases e2
theorem Yq{H H':Hp}{i:Int}:FrV H H' (.int i):=λl' e _=>by cases e
theorem YR{H H':Hp}{i:Bool}:FrV H H' (.bl i):=λl' e _=>by cases e
theorem Qsh{H H':Hp}:FrV H H' .non:=λl' e _=>by cases e
theorem DAs.rep{A:Addr->Prop}{H:Hp}{xs:List V}{ds:List Qb}(q:DAs A H xs ds):∀k:Nat,DAs A H (Q4 k xs).flatten (Q4 k ds).flatten
 |0=>.nil
 |k+1=>by rw[JX,JX,Zy,Zy];exact q.app (DAs.rep q k)
def QyJ:Qb->Qb->(Qb->Prop)->Prop
 |.int i,.int j,Q=>Q (.int (i+j))
 |.tuple a,.tuple b,Q=>a.length+b.length<=1000000/\Q (.tuple (a++b))
 |.list a,.list b,Q=>a.length+b.length<=1000000/\Q (.list (a++b))
 |_,_,_=>False
def iiD(C:Int->Int->Prop)(f:Int->Int->Qb):Qb->Qb->(Qb->Prop)->Prop
 |.int i,.int j,Q=>C i j/\Q (f i j)
 |_,_,_=>False
def ii0(f:Int->Int->Qb):Qb->Qb->(Qb->Prop)->Prop
 |.int i,.int j,Q=>Q (f i j)
 |_,_,_=>False
def Qyw:Qb->Qb->(Qb->Prop)->Prop
 |.int i,.int j,Q=>(CMul i j∨CMulB i j)/\Q (.int (i*j))
 |.list a,.int k,Q=>(k<1000000 /\ -1000000<k/\a.length*k.toNat<=1000000)/\Q (.list (Q4 k.toNat a).flatten)
 |_,_,_=>False
theorem Qgi:1000000<=sizeLine:=by show 1000000<=2^24;decide
section
variable{X:Cx}{E:XK}
theorem Qnt{C:Int->Int->Prop}{g:Int->Int->Int}:OpD (rI C λi j=>.int (g i j)) (iiD C λi j=>.int (g i j)):=λA P H x y d1 d2 R Q ln dm hx hy h k=>by
 cases d1<;>cases d2<;>first | exact h.elim | skip
 rw[hx.int,hy.int];exact⟨_,_,rfl,rfl,h.1,k _ h.2 _ H (Same.refl H) (.int _) Yq⟩
theorem Qeo{g:Int->Int->Int}:OpD (rI0 λi j=>.int (g i j)) (ii0 λi j=>.int (g i j)):=λA P H x y d1 d2 R Q ln dm hx hy h k=>by
 cases d1<;>cases d2<;>first | exact h.elim | skip
 rw[hx.int,hy.int];exact⟨_,_,rfl,rfl,k _ h _ H (Same.refl H) (.int _) Yq⟩
theorem QkX{g:Int->Int->Bool}:OpD (rI0 λi j=>.bl (g i j)) (ii0 λi j=>.bool (g i j)):=λA P H x y d1 d2 R Q ln dm hx hy h k=>by
 cases d1<;>cases d2<;>first | exact h.elim | skip
 rw[hx.int,hy.int];exact⟨_,_,rfl,rfl,k _ h _ H (Same.refl H) (.bl _) YR⟩
def rAdd:R2:=λx y H Q=>(rI0 (λi j=>.int (i+j)) x y H Q∨QtK x y H Q)∨QxR x y H Q
theorem QaM:OpR X (binaryOp .Add) rAdd:=OpR.or2 (OpR.or2 Qen QrN) Qul
theorem Qcd:OpD rAdd QyJ:=λA P H x y d1 d2 R Q ln dm hx hy h k=>by
 cases d1<;>cases d2<;>first | exact h.elim | skip
 ·rw[hx.int,hy.int];exact .inl (.inl ⟨_,_,rfl,rfl,k _ h _ H (Same.refl H) (.int _) Yq⟩)
 ·obtain⟨l1,xs,rfl,e1,q1⟩:=hx.list;obtain⟨l2,ys,rfl,e2,q2⟩:=hy.list;refine .inr ⟨l1,l2,xs,ys,rfl,rfl,e1,e2,QJ (by rw[q1.length,q2.length];exact h.1) Qgi,λp hp=>?_⟩;exact k _ h.2 _ _ (Jg hp) (Qce dm (Jg hp) hp Jh (q1.app q2)) (YI hp)
 ·obtain⟨l1,xs,rfl,e1,q1⟩:=hx.tuple;obtain⟨l2,ys,rfl,e2,q2⟩:=hy.tuple;refine .inl (.inr ⟨l1,l2,xs,ys,rfl,rfl,e1,e2,QJ (by rw[q1.length,q2.length];exact h.1) Qgi,λp H' s e=>?_⟩);exact k _ h.2 _ _ s (QfP dm s e (q1.app q2)) (Qdz e)
def QtI:R2:=λx y H Q=>(rI CMul (λi j=>.int (i*j)) x y H Q∨rI CMulB (λi j=>.int (i*j)) x y H Q)∨QxJ x y H Q
theorem Qha:OpR X (binaryOp .Mult) QtI:=OpR.or2 (OpR.or2 Qem QrI) Quc
theorem QkW:OpD QtI Qyw:=λA P H x y d1 d2 R Q ln dm hx hy h k=>by
 cases d1<;>cases d2<;>first | exact h.elim | skip
 ·rw[hx.int,hy.int];rcases h.1 with c | c
  ·exact .inl (.inl ⟨_,_,rfl,rfl,c,k _ h.2 _ H (Same.refl H) (.int _) Yq⟩)
  ·exact .inl (.inr ⟨_,_,rfl,rfl,c,k _ h.2 _ H (Same.refl H) (.int _) Yq⟩)
 ·obtain⟨l1,xs,rfl,e1,q1⟩:=hx.list;rw[hy.int];obtain⟨⟨h1,h2,h3⟩,h4⟩:=h;refine .inr ⟨l1,_,xs,rfl,rfl,e1,by omega,by omega,QJ (by rw[q1.length];exact h3) Qgi,λp hp=>?_⟩;exact k _ h4 _ _ (Jg hp) (Qce dm (Jg hp) hp Jh (q1.rep _)) (YI hp)
def eqD:Qb->Qb->(Qb->Prop)->Prop
 |.int i,.int j,Q=>Q (.bool (decide (i=j)))
 |.bool i,.bool j,Q=>Q (.bool (decide (i=j)))
 |.str i,.str j,Q=>Q (.bool (decide (i=j)))
 |a,b,Q=>(nd a=true/\nd b=true/\(a.depth<=50∨b.depth<=50))/\Q (.bool (QL a b))
def neD:Qb->Qb->(Qb->Prop)->Prop
 |.int i,.int j,Q=>Q (.bool (!decide (i=j)))
 |.bool i,.bool j,Q=>Q (.bool (!decide (i=j)))
 |.str i,.str j,Q=>Q (.bool (!decide (i=j)))
 |a,b,Q=>(nd a=true/\nd b=true/\(a.depth<=50∨b.depth<=50))/\Q (.bool (!QL a b))
theorem Quy{a b:Qb}(h:a.depth<=50∨b.depth<=50):min a.depth b.depth<=50:=by rcases h with h | h<;>omega
def QxQ(u:Nat):R2:=λx y H Q=>rEq x y H Q∨QxP u x y H Q
def QxL(u:Nat):R2:=λx y H Q=>rNe x y H Q∨QxK u x y H Q
theorem Qdp:OpR X (compareOp .Eq) (QxQ X.A.units):=OpR.or2 QrL Quj
theorem YO:OpR X (compareOp .NotEq) (QxL X.A.units):=OpR.or2 QwV Qud
theorem QuV{i j:Int}:decide (V.int i=V.int j)=decide (i=j):=by
 by_cases h:i=j
 ·subst h;simp
 ·rw[decide_eq_false h,decide_eq_false (λz=>h (V.int.inj z))]
theorem QuW{i j:Bool}:decide (V.bl i=V.bl j)=decide (i=j):=by
 by_cases h:i=j
 ·subst h;simp
 ·rw[decide_eq_false h,decide_eq_false (λz=>h (V.bl.inj z))]
theorem QuU{i j:Str}:decide (V.str i=V.str j)=decide (i=j):=by
 by_cases h:i=j
 ·subst h;simp
 ·rw[decide_eq_false h,decide_eq_false (λz=>h (V.str.inj z))]
theorem Qhb{u:Nat}(hu:u+60<cLine):OpD (QxQ u) eqD:=λA P H x y d1 d2 R Q ln dm hx hy h k=>by
 unfold eqD at h;split at h
 ·rw[hx.int,hy.int];exact .inl ⟨rfl,k (.bool (decide (V.int _=V.int _))) (by rw[QuV];exact h) _ H (Same.refl H) (.bl _) YR⟩
 ·rw[hx.bool,hy.bool];exact .inl ⟨rfl,k (.bool (decide (V.bl _=V.bl _))) (by rw[QuW];exact h) _ H (Same.refl H) (.bl _) YR⟩
 ·rw[hx.str.1,hy.str.1];exact .inl ⟨rfl,k (.bool (decide (V.str _=V.str _))) (by rw[QuU];exact h) _ H (Same.refl H) (.bl _) YR⟩
 ·obtain⟨⟨n1,n2,dp⟩,hR⟩:=h;have:=Quy dp;exact .inr ⟨_,_,hx.dat n1,hy.dat n2,by omega,k _ hR _ H (Same.refl H) (.bl _) YR⟩
theorem QbD{u:Nat}(hu:u+60<cLine):OpD (QxL u) neD:=λA P H x y d1 d2 R Q ln dm hx hy h k=>by
 unfold neD at h;split at h
 ·rw[hx.int,hy.int];exact .inl ⟨rfl,k (.bool (!decide (V.int _=V.int _))) (by rw[QuV];exact h) _ H (Same.refl H) (.bl _) YR⟩
 ·rw[hx.bool,hy.bool];exact .inl ⟨rfl,k (.bool (!decide (V.bl _=V.bl _))) (by rw[QuW];exact h) _ H (Same.refl H) (.bl _) YR⟩
 ·rw[hx.str.1,hy.str.1];exact .inl ⟨rfl,k (.bool (!decide (V.str _=V.str _))) (by rw[QuU];exact h) _ H (Same.refl H) (.bl _) YR⟩
 ·obtain⟨⟨n1,n2,dp⟩,hR⟩:=h;have:=Quy dp;exact .inr ⟨_,_,hx.dat n1,hy.dat n2,by omega,k _ hR _ H (Same.refl H) (.bl _) YR⟩
def QpY(u:Nat)(neg:Bool):R2:=λx y H Q=>∃c ps ds d,y=.ref c/\H c=some (.lst ps)/\Dats H ps ds/\Dat H x d/\u+d.depth<cLine/\Q (.bl (if neg then !(ds.any λe=>QL e d) else ds.any λe=>QL e d)) H
theorem QrK:OpR X (compareOp .In) (QpY X.A.in1.units false):=by
 intro pins s σ H x y v u Q I rx ry h;obtain⟨c,ps,ds,d,rfl,hc,qs,qx,hu,q⟩:=h;cases ry;obtain⟨⟨as,ra⟩,ca⟩:=ZM I.hok d x v qx rx;obtain⟨its,rv,pl,hz⟩:=I.list (SqL.of hc);obtain⟨⟨bs,rb⟩,cb⟩:=Yr I.hok ds ps its qs rv;refine Qpm (eqH s.heap d) pl.isList (λw hw=>Qds ra ca rb cb hu w (Y4.mp hw)) ⟨.bl _,H,I,rfl,?_⟩;rw[show its.toArray.any (eqH s.heap d)=its.any (eqH s.heap d) by simp,QdK rb cb];exact q
theorem QiU:OpR X (compareOp .NotIn) (QpY X.A.in1.units true):=by
 intro pins s σ H x y v u Q I rx ry h;obtain⟨c,ps,ds,d,rfl,hc,qs,qx,hu,q⟩:=h;cases ry;obtain⟨⟨as,ra⟩,ca⟩:=ZM I.hok d x v qx rx;obtain⟨its,rv,pl,hz⟩:=I.list (SqL.of hc);obtain⟨⟨bs,rb⟩,cb⟩:=Yr I.hok ds ps its qs rv;refine SeqAt.notIn_listAt (eqH s.heap d) pl.isList (λw hw=>Qds ra ca rb cb hu w (Y4.mp hw)) ⟨.bl _,H,I,rfl,?_⟩;rw[show its.toArray.any (eqH s.heap d)=its.any (eqH s.heap d) by simp,QdK rb cb];exact q
def inD(neg:Bool)(d:Qb):Qb->(Qb->Prop)->Prop
 |.list ds,Q=>(nds ds=true/\nd d=true/\d.depth<=50)/\Q (.bool (if neg then !(ds.any λe=>QL e d) else ds.any λe=>QL e d))
 |.tuple ds,Q=>(nds ds=true/\nd d=true/\d.depth<=50)/\Q (.bool (if neg then !(ds.any λe=>QL e d) else ds.any λe=>QL e d))
 |_,_=>False
def QwC(u:Nat)(neg:Bool):R2:=λx y H Q=>QvF u neg x y H Q∨QpY u neg x y H Q
theorem Quh:OpR X (compareOp .In) (QwC X.A.in1.units false):=OpR.or2 QoP QrK
theorem Qgc:OpR X (compareOp .NotIn) (QwC X.A.in1.units true):=OpR.or2 QkK QiU
theorem QrY{u:Nat}{neg:Bool}(hu:u+60<cLine):OpD (QwC u neg) (inD neg):=λA P H x y d1 d2 R Q ln dm hx hy h k=>by
 cases d2<;>first | exact h.elim | skip
 ·obtain⟨l,xs,rfl,e,q⟩:=hy.list;obtain⟨⟨n1,n2,n3⟩,hR⟩:=h;exact .inr ⟨l,xs,_,d1,rfl,e,Qam _ _ n1 q,hx.dat n2,by omega,k _ hR _ H (Same.refl H) (.bl _) YR⟩
 ·obtain⟨l,xs,rfl,e,q⟩:=hy.tuple;obtain⟨⟨n1,n2,n3⟩,hR⟩:=h;exact .inl ⟨l,xs,_,d1,rfl,e,Qam _ _ n1 q,hx.dat n2,by omega,k _ hR _ H (Same.refl H) (.bl _) YR⟩
def ixD:Qb->Qb->(Qb->Prop)->Prop
 |.list ds,.int i,Q=>∃d,atI ds i=some d/\Q d
 |.tuple ds,.int i,Q=>∃d,atI ds i=some d/\Q d
 |_,_,_=>False
theorem Qpi{A:Addr->Prop}{H:Hp}{xs:List V}{ds:List Qb}{i:Int}{d:Qb}(q:DAs A H xs ds)(h:atI ds i=some d):∃v,atI xs i=some v/\DA A H v d:=by
 unfold atI at h ⊢;rw[q.length];cases e:ixN ds.length i with
 |none=>rw[e] at h;cases h
 |some j=>
  rw[e] at h;exact q.get j d h
def QxN(K:PySem.W.Frag):R2:=λx y H Q=>QvE K x y H Q∨QwB K x y H Q
theorem ZS:IxR X (QxN X.K):=IxR.or2 QcM Qie
theorem Qae{K:PySem.W.Frag}:QsI (QxN K) ixD:=λA P H x y d1 d2 R Q ln dm hx hy h k=>by
 cases d1<;>cases d2<;>first | exact h.elim | skip
 ·obtain⟨l,xs,rfl,e,q⟩:=hx.list;obtain⟨d,hd,hR⟩:=h;obtain⟨v,hv,dv⟩:=Qpi q hd;rw[hy.int];exact .inl ⟨l,xs,_,v,rfl,rfl,SqL.of e,hv,k d hR v H (Same.refl H) dv⟩
 ·obtain⟨l,xs,rfl,e,q⟩:=hx.tuple;obtain⟨d,hd,hR⟩:=h;obtain⟨v,hv,dv⟩:=Qpi q hd;rw[hy.int];exact .inr ⟨l,xs,_,v,rfl,rfl,SqT.of e,hv,k d hR v H (Same.refl H) dv⟩
def dUn(rD:Qb->(Qb->Prop)->Prop)(wa:DE):DE:=λδ Q EX=>wa δ (λd=>rD d Q) EX
def QxS:Qb->(Qb->Prop)->Prop
 |.int i,Q=>Q (.int (-i))
 |_,_=>False
variable{a b c:QR}{wa wb wc:DE}{pos:Pos}
theorem Qt5(ha:PE X a (tX .P X.K E wa)):PE X (.UnaryOp .USub a pos) (tX .F X.K E (dUn QxS wa)):=by
 refine PE.imp (QwJ Qtd ha) λσ H Q ⟨F,δ,R,EX,rel,hw,k,o⟩=>?_
 refine⟨F,δ,_,EX,rel,hw,λd hd v H' rel' kp vk=>?_,o⟩;cases d<;>first | exact(show False from hd).elim | skip
 exact⟨_,DP.int vk,k _ hd _ H' rel' kp ⟨.int _,Yq⟩⟩
def dCh(p q:Int->Int->Bool)(wa wb wc:DE):DE:=λδ Q EX=>wa δ (λx=>wb δ (λy=>match x,y with
 |.int i,.int j=>if p i j=true then wc δ (λz=>match z with
  |.int k=>Q (.bool (q j k))
  |_=>False) EX else Q (.bool false)
 |_,_=>False) EX) EX
theorem Qsw{K:PySem.W.Frag}{p q:Int->Int->Bool}(σ:L2.St)(H:Hp)(Q:VK)(h:tX .F K E (dCh p q wa wb wc) σ H Q) :
  Qou (rI0 λi j=>.bl (p i j)) (rI0 λi j=>.bl (q i j)) (tX .P K E wa) (tX .P K E wb) (tX .P K E wc) σ H Q:=by
 obtain⟨F,δ,R,EX,rel,hw,k,o⟩:=h;refine⟨F,δ,_,EX,rel,hw,λd1 h1 x H1 rel1 kp1 x1=>⟨F,δ,_,EX,rel1,h1,λd2 h2 y H2 rel2 kp2 y2=>?_,o⟩,o⟩;cases d1<;>cases d2<;>first | exact(show False from h2).elim | skip
 rw[DP.int x1,DP.int y2];refine⟨_,_,rfl,rfl,_,rfl,Qdy h2 (λz=>⟨F,δ,_,EX,rel2,z,λd3 h3 v H3 rel3 kp3 v3=>?_,o⟩) λz=>k _ z _ H2 rel2 (kp1.trans kp2) ⟨.bl _,YR⟩⟩;cases d3<;>first | exact(show False from h3).elim | skip
 rw[DP.int v3];exact⟨_,_,rfl,rfl,k _ h3 _ H3 rel3 ((kp1.trans kp2).trans kp3) ⟨.bl _,YR⟩⟩
theorem QwO{op op':Qpw}{p q:Int->Int->Bool}(ho:OpR X (compareOp op) (rI0 λi j=>.bl (p i j)))(ho':OpR X (compareOp op') (rI0 λi j=>.bl (q i j)))(ha:PE X a (tX .P X.K E wa))(hb:PE X b (tX .P X.K E wb))(hc:PE X c (tX .P X.K E wc))(hm:lastMarks [op,op'] [b,c]=false:=by with_unfolding_all rfl) :
  PE X (.Compare a [op,op'] [b,c] pos) (tX .F X.K E (dCh p q wa wb wc)):=PE.imp (QmV ho ho' ha hb hc (hm:=hm)) Qsw
def Qx4:DAr:=λ_ Q _=>Q []
def Qly(we:DE)(wr:DAr):DAr:=λδ Q EX=>we δ (λd=>wr δ (λds=>Q (d::ds)) EX) EX
theorem Qrw{m:Md}:PA X [] (tAr 0 m X.K E Qx4):=PA.imp JA λσ H Q ⟨F,δ,R,EX,rel,hw,k,o⟩=>k [] hw rfl [] H rel (Kp.refl rel) .nil
theorem QlU{n:Nat}{m:Md}{K:PySem.W.Frag}{we:DE}{wr:DAr}(hm:∀{F:Fm}{σ:L2.St}{δ:Sts}{H H':Hp}{v:V}{d:Qb},Vok m F σ δ H H' v d->VD m (Av F σ δ) (ZO σ δ) H' v d)(σ:L2.St)(H:Hp)(Q:List V->Hp->Prop)(h:tAr (n+1) m K E (Qly we wr) σ H Q):Qa5 (tX m K E we) (tAr n m K E wr) σ H Q:=by
 obtain⟨F,δ,R,EX,rel,hw,k,o⟩:=h;refine⟨F,δ,_,EX,rel,hw,λd hd v H' rel' kp vk=>⟨F,δ,_,EX,rel',hd,λds hds hl vs H2 rel2 kp2 vks=>?_,o⟩,o⟩;exact k _ hds (by rw[QZ,hl]) (v::vs) H2 rel2 (kp.trans kp2) (.cons (kp2.vd (hm vk)) vks)
theorem QkE{n:Nat}{e:QR}{es:List QR}{we:DE}{wr:DAr}(he:PE X e (tX .D X.K E we))(hr:PA X es (tAr n .D X.K E wr))(hs:notStar e=true:=by rfl):PA X (e::es) (tAr (n+1) .D X.K E (Qly we wr)):=PA.imp (Qcc he hr hs) (QlU λh=>h)
theorem QkD{n:Nat}{e:QR}{es:List QR}{we:DE}{wr:DAr}(he:PE X e (tX .P X.K E we))(hr:PA X es (tAr n .P X.K E wr))(hs:notStar e=true:=by rfl):PA X (e::es) (tAr (n+1) .P X.K E (Qly we wr)):=PA.imp (Qcc he hr hs) (QlU λh=>h)
theorem QcI{A P:Addr->Prop}{H:Hp}:∀{vs:List V}{ds:List Qb},Qap (VD .D A P H) vs ds->DAs A H vs ds
 |_,_,.nil=>.nil
 |_,_,.cons a b=>.cons a (QcI b)
def QxZ(w:DAr):DE:=λδ Q EX=>w δ (λds=>Q (.tuple ds)) EX
def Qx5(w:DAr):DE:=λδ Q EX=>w δ (λds=>Q (.list ds)) EX
theorem Qt2{n:Nat}{es:List QR}{w:DAr}{x1}(h:PA X es (tAr n .D X.K E w))(hn:n<=1000:=by decide):PE X (.Tuple es x1 pos) (tX .F X.K E (QxZ w)):=by
 refine PE.imp (Qdn h) λσ H Q ⟨F,δ,R,EX,rel,hw,k,o⟩=>?_
 refine⟨F,δ,_,EX,rel,hw,λds hds hl vs H' rel' kp q=>?_,o⟩;have q':=QcI q;refine⟨by rw[q'.length,hl];exact hn,λa H2 s n e=>k _ hds _ H2 (rel'.same s) (kp.trans (Kp.same rel' s)) ⟨QfP (λa ha=>rel'.isl ha) s e q',Qdz e⟩⟩
theorem QbQ{σ:L2.St}{δ:Sts}{H H':Hp}{l:Addr}(k:Kp σ δ H H')(n:H' l=none):H l=none:=by
 cases e:H l with
 |none=>rfl
 |some ob=>
  by_cases z:ZO σ δ l
  ·obtain⟨m,em⟩:=k.2 l z;rw[em] at n;cases n
  ·rw[k.1 _ _ z e] at n;cases n
theorem Qt6{n:Nat}{es:List QR}{w:DAr}(h:PA X es (tAr n .D X.K E w))(hn:n<=1000:=by decide):PE X (.List es pos) (tX .F X.K E (Qx5 w)):=by
 refine PE.imp (Qrf h) λσ H Q ⟨F,δ,R,EX,rel,hw,k,o⟩=>?_
 refine⟨F,δ,_,EX,rel,hw,λds hds hl vs H' rel' kp q=>?_,o⟩;have q':=QcI q;refine⟨by rw[q'.length,hl];exact hn,λa H2 s n e=>k _ hds _ H2 (rel'.same s) (kp.trans (Kp.same rel' s)) ⟨Qce (λa ha=>rel'.isl ha) s n e q',YI (QbQ kp n)⟩⟩
def QbU(r:List V->Hp->VK->Prop)(rD:List Qb->(Qb->Prop)->Prop):Prop:=∀(A P:Addr->Prop)(H:Hp)(vs:List V)(ds:List Qb)(R:Qb->Prop)(Q:VK),Qcn H->(∀a,A a->∃xs,H a=some (.lst xs))->Qap (DP A P H) vs ds->rD ds R ->
 (∀d,R d->∀v H',Same H H'->DA A H' v d->FrV H H' v->Q v H')->r vs H Q
def dCB(rD:List Qb->(Qb->Prop)->Prop)(wa:DAr):DE:=λδ Q EX=>wa δ (λds=>rD ds Q) EX
theorem QlJ{n:Nat}{K:PySem.W.Frag}{r:List V->Hp->VK->Prop}{rD:List Qb->(Qb->Prop)->Prop}{wa:DAr}(hd:QbU r rD)(σ:L2.St)(H:Hp)(Q:VK)(h:tX .F K E (dCB rD wa) σ H Q) :
  tCB (λxs H Q=>Qcn H->r xs H Q) (tAr n .P K E wa) σ H Q:=by
 obtain⟨F,δ,R,EX,rel,hw,k,o⟩:=h;refine⟨F,δ,_,EX,rel,hw,λds hds hl vs H' rel' kp q ln=>?_,o⟩;refine hd (Av F σ δ) (ZO σ δ) H' vs ds R Q ln (λa ha=>rel'.isl ha) q hds λd hR v H2 s dv fr=>?_
 exact k d hR v H2 (rel'.same s) (kp.trans (Kp.same rel' s)) ⟨dv,λl e1 e2=>QbQ kp (fr l e1 e2)⟩
variable{x:Str}{bid T:String}{p:Pos}{e:QR}{es:List QR}{n:Nat}{wr:DAr}{r:List V->Hp->VK->Prop}{rD:List Qb->(Qb->Prop)->Prop}
theorem Qng(hc:CallR X (.builtin bid) r)(hd:QbU r rD)(hg:Gl X x)(hm:X.mg x=none)(hv:bootBuiltins x=some (.builtin bid))(ha:PA X (e::es) (tAr n .P X.K E wr))(hn:x ≠ "__name__" := by decide)(hdb:(x == ("__debug__" : Str))=false:=by decide)
  (he:starEach (e::es) X.env=(false,eval e X.env)::starEach es X.env:=by rfl)(hpl:(backTo pos (starEach es X.env)).any (·.1)=false:=by rfl):PE X (.Call (.Name x p) (e::es) [] pos) (tX .F X.K E (dCB rD wr)):=
 PE.imp (Z4 (CallR.len hc) hg hm hv ha hn hdb he hpl) (QlJ hd)
theorem QkG(hc:CallR X (.type T) r)(hd:QbU r rD)(hg:Gl X x)(hm:X.mg x=none)(hv:bootBuiltins x=some (.type T))(ha:PA X (e::es) (tAr n .P X.K E wr))(hn:x ≠ "__name__" := by decide)(hdb:(x == ("__debug__" : Str))=false:=by decide)
  (he:starEach (e::es) X.env=(false,eval e X.env)::starEach es X.env:=by rfl)(hpl:(backTo pos (starEach es X.env)).any (·.1)=false:=by rfl):PE X (.Call (.Name x p) (e::es) [] pos) (tX .F X.K E (dCB rD wr)):=
 PE.imp (Qdo (CallR.len hc) hg hm hv ha hn hdb he hpl) (QlJ hd)
theorem pd1{A P:Addr->Prop}{H:Hp}{vs:List V}{d:Qb}(q:Qap (DP A P H) vs [d]):∃v,vs=[v]/\DP A P H v d:=by
 cases q with
 |cons a b=>cases b;exact⟨_,rfl,a⟩
theorem pd2{A P:Addr->Prop}{H:Hp}{vs:List V}{d d':Qb}(q:Qap (DP A P H) vs [d,d']):∃v v',vs=[v,v']/\DP A P H v d/\DP A P H v' d':=by
 cases q with
 |cons a b=>cases b with | cons b c=>cases c;exact⟨_,_,rfl,a,b⟩
def QxT:List Qb->(Qb->Prop)->Prop
 |[.list ds],Q=>Q (.int ds.length)
 |[.tuple ds],Q=>Q (.int ds.length)
 |_,_=>False
theorem QbJ{K:PySem.W.Frag}:QbU (QtJ K) QxT:=λA P H vs ds R Q ln dm q h k=>by
 unfold QxT at h;split at h
 ·obtain⟨v,rfl,hv⟩:=pd1 q;obtain⟨l,xs,rfl,e,qq⟩:=hv.list;exact⟨l,xs,rfl,.inl (SqL.of e),by rw[qq.length];exact k _ h _ H (Same.refl H) (.int _) Yq⟩
 ·obtain⟨v,rfl,hv⟩:=pd1 q;obtain⟨l,xs,rfl,e,qq⟩:=hv.tuple;exact⟨l,xs,rfl,.inr (SqT.of e),by rw[qq.length];exact k _ h _ H (Same.refl H) (.int _) Yq⟩
 ·exact h.elim
theorem ZZ:CallR X (.builtin "len") (QtJ X.K):=YE
def Qr3:List Qb->(Qb->Prop)->Prop
 |[.int i,.int j],Q=>Q (.int (if j<i then j else i))
 |_,_=>False
def Quz:List Qb->(Qb->Prop)->Prop
 |[.int i,.int j],Q=>Q (.int (if j > i then j else i))
 |_,_=>False
theorem QlI:QbU (λxs H Q=>∃i j,xs=[.int i,.int j]/\Q (.int (if j<i then j else i)) H) Qr3:=λA P H vs ds R Q ln dm q h k=>by
 unfold Qr3 at h;split at h
 ·obtain⟨v,v',rfl,h1,h2⟩:=pd2 q;rw[h1.int,h2.int];exact⟨_,_,rfl,k _ h _ H (Same.refl H) (.int _) Yq⟩
 ·exact h.elim
theorem Qsy:QbU (λxs H Q=>∃i j,xs=[.int i,.int j]/\Q (.int (if j > i then j else i)) H) Quz:=λA P H vs ds R Q ln dm q h k=>by
 unfold Quz at h;split at h
 ·obtain⟨v,v',rfl,h1,h2⟩:=pd2 q;rw[h1.int,h2.int];exact⟨_,_,rfl,k _ h _ H (Same.refl H) (.int _) Yq⟩
 ·exact h.elim
def QbT:List Qb->Option (List Bool)
 |[]=>some []
 |.bool b::ds=>(QbT ds).map (b::·)
 |_::_=>none
def Qbq:List Qb->Option (List Int)
 |[]=>some []
 |.int b::ds=>(Qbq ds).map (b::·)
 |_::_=>none
theorem QlP(bs:List Bool):QbT (bs.map Qa8)=some bs:=by
 induction bs with
 |nil=>rfl
 |cons b bs ih=>rw[JT,QbT,ih];rfl
theorem ints_map(bs:List Int):Qbq (bs.map Qs)=some bs:=by
 induction bs with
 |nil=>rfl
 |cons b bs ih=>rw[JT,Qbq,ih];rfl
theorem bools_eq:∀{ds:List Qb}{bs:List Bool},QbT ds=some bs->ds=bs.map Qa8
 |[],bs,h=>by cases h;rfl
 |d::ds,bs,h=>by
  cases d<;>first | (unfold QbT at h;cases h;done) | skip
  rw[QbT] at h;obtain⟨cs,h1,rfl⟩:=ZH.mp h;rw[bools_eq h1];rfl
theorem Qhj:∀{ds:List Qb}{bs:List Int},Qbq ds=some bs->ds=bs.map Qs
 |[],bs,h=>by cases h;rfl
 |d::ds,bs,h=>by
  cases d<;>first | (unfold Qbq at h;cases h;done) | skip
  rw[Qbq] at h;obtain⟨cs,h1,rfl⟩:=ZH.mp h;rw[Qhj h1];rfl
theorem Qgs{A:Addr->Prop}{H:Hp}:∀{bs:List Bool}{xs:List V},DAs A H xs (bs.map Qa8)->xs=bs.map V.bl
 |[],_,.nil=>rfl
 |b::bs,_,.cons (.bl _) r=>by rw[Qgs r];rfl
theorem Qc9{A:Addr->Prop}{H:Hp}:∀{bs:List Int}{xs:List V},DAs A H xs (bs.map Qs)->xs=bs.map V.int
 |[],_,.nil=>rfl
 |b::bs,_,.cons (.int _) r=>by rw[Qc9 r];rfl
@[irreducible] def QvM:List Qb->(Qb->Prop)->Prop
 |[.list ds],Q=>∃bs,QbT ds=some bs/\Q (.bool (bs.all id))
 |_,_=>False
theorem Qiq{K:PySem.W.Frag}{cm:Bool}(hc:cm=true):QbU (λxs H Q=>∃(p:Addr)(bs:List Bool),xs=[.ref p]/\SqL K H p (bs.map V.bl)/\cm=true/\Q (.bl (bs.all id)) H) QvM:=λA P H vs ds R Q ln dm q h k=>by
 unfold QvM at h;split at h
 ·obtain⟨v,rfl,hv⟩:=pd1 q;obtain⟨bs,hb,hR⟩:=h;rw[bools_eq hb] at hv;obtain⟨l,xs,rfl,e,qq⟩:=hv.list;rw[Qgs qq] at e;exact⟨l,bs,rfl,SqL.of e,hc,k _ hR _ H (Same.refl H) (.bl _) YR⟩
 ·exact h.elim
def Qor:List Qb->(Qb->Prop)->Prop
 |[.list ds],Q=>Q (.tuple ds)
 |[.tuple ds],Q=>Q (.tuple ds)
 |_,_=>False
def QuC:List Qb->(Qb->Prop)->Prop
 |[.list ds],Q=>Q (.list ds)
 |[.tuple ds],Q=>Q (.list ds)
 |_,_=>False
theorem Qan{K:PySem.W.Frag}:QbU (Qkg K) Qor:=λA P H vs ds R Q ln dm q h k=>by
 unfold Qor at h;split at h
 ·obtain⟨v,rfl,hv⟩:=pd1 q;obtain⟨l,xs,rfl,e,qq⟩:=hv.list;exact⟨l,xs,rfl,.inl ⟨SqL.of e,λl' H' s n e'=>k _ h _ H' s (QfP dm s e' qq) (Qdz e')⟩⟩
 ·obtain⟨v,rfl,hv⟩:=pd1 q;obtain⟨l,xs,rfl,e,qq⟩:=hv.tuple;exact⟨l,xs,rfl,.inr ⟨SqT.of e,k _ h _ H (Same.refl H) (QfP dm (Same.refl H) e qq) (Qdz e)⟩⟩
 ·exact h.elim
theorem Qsz{K:PySem.W.Frag}:QbU (Qkj K) QuC:=λA P H vs ds R Q ln dm q h k=>by
 unfold QuC at h;split at h
 ·obtain⟨v,rfl,hv⟩:=pd1 q;obtain⟨l,xs,rfl,e,qq⟩:=hv.list;exact⟨l,xs,rfl,.inl (SqL.of e),λl' H' s n e'=>k _ h _ H' s (Qce dm s n e' qq) (YI n)⟩
 ·obtain⟨v,rfl,hv⟩:=pd1 q;obtain⟨l,xs,rfl,e,qq⟩:=hv.tuple;exact⟨l,xs,rfl,.inr (SqT.of e),λl' H' s n e'=>k _ h _ H' s (Qce dm s n e' qq) (YI n)⟩
 ·exact h.elim
end
section
variable{X:Cx}{E:XK}
inductive Tn where | int | bool | str | tuple | list
def Tn.s:Tn->String
 |.int => "int"
 |.bool => "bool"
 |.str => "str"
 |.tuple => "tuple"
 |.list => "list"
def isT:Tn->Qb->Bool
 |.int,.int _=>true
 |.int,.bool _=>true
 |.bool,.bool _=>true
 |.str,.str _=>true
 |.tuple,.tuple _=>true
 |.list,.list _=>true
 |_,_=>false
theorem Qsc{K:PySem.W.Frag}{A P:Addr->Prop}{H:Hp}{v:V}{d:Qb}(tn:Tn)(h:DP A P H v d):∃t,TyOf K H v t/\PySem.W.kitOne K t (.type tn.s)=some (isT tn d):=by
 rcases h with h | ⟨l,xs,ds,rfl,rfl,_,e,q⟩
 ·cases h with
  |non=>exact⟨_,.non,by cases tn<;>rfl⟩
  |bl b=>exact⟨_,.bl _,by cases tn<;>rfl⟩
  |int i=>exact⟨_,.int _,by cases tn<;>rfl⟩
  |str x c=>exact⟨_,.str _,by cases tn<;>rfl⟩
  |tup n e q=>exact⟨_,.tup e,by cases tn<;>rfl⟩
  |lst n e q=>exact⟨_,.lst e,by cases tn<;>rfl⟩
  |dct n e q=>exact⟨_,.dK e,by cases tn<;>rfl⟩
 ·exact⟨_,.lst e,by cases tn<;>rfl⟩
def Qu8(tn:Tn)(we:DE):DE:=λδ Q EX=>we δ (λd=>Q (.bool (isT tn d))) EX
theorem Qry{e f:QR}{we:DE}{p pos:Pos}(tn:Tn)(hg:Gl X "isinstance")(hm:X.mg "isinstance" = none)(he:PE X e (tX .P X.K E we))(hf:PE X f (tC (.ty tn.s)))(h1:notStar e=true:=by rfl)(h2:notStar f=true:=by rfl) :
  PE X (.Call (.Name "isinstance" p) [e,f] [] pos) (tX .F X.K E (Qu8 tn we)):=by
 refine PE.imp (Z4 QdH hg hm Qck (Qcc he (Qcc hf JA h2) h1) (he:=J5 h1) (hpl:=by rw[J5 h2];rfl)) λσ H Q ⟨F,δ,R,EX,rel,hw,k,o⟩=>?_
 refine⟨F,δ,_,EX,rel,hw,λd hd v H' rel' kp vk=>?_,o⟩;obtain⟨t,ty,et⟩:=Qsc (K:=X.K) tn vk;exact⟨v,t,tn.s,_,rfl,ty,et,k _ hd _ H' rel' kp ⟨.bl _,YR⟩⟩
theorem QwR{x:Str}{pos:Pos}(tn:Tn)(hg:Gl X x)(hm:X.mg x=none)(hv:bootBuiltins x=some (.type tn.s))(hn:x ≠ "__name__" := by decide)(hd:(x == ("__debug__" : Str))=false:=by decide):PE X (.Name x pos) (tC (.ty tn.s)):=Qkw (v:=.ty tn.s) hg hm hv rfl hn hd
abbrev DO:=Sts->(Option Int->Prop)->XP->Prop
def tO(K:PySem.W.Frag)(E:XK)(w:DO):TO:=λσ H Q=>∃(F:Fm)(δ:Sts)(R:Option Int->Prop)(EX:XP),Rel K F σ H δ/\w δ R EX/\(∀d,R d->∀H',Rel K F σ H' δ->Kp σ δ H H'->Q d H')/\Out F E EX
def dNo:DO:=λ_ Q _=>Q none
def dSo(we:DE):DO:=λδ Q EX=>we δ (λd=>match d with
 |.int i=>Q (some i)
 |_=>False) EX
theorem PO.imp{e:Option QR}{t t':TO}(h:PO X e t)(i:∀σ H Q,t' σ H Q->t σ H Q):PO X e t':=λpins s σ H Q I q=>h pins s σ H Q I (i σ H Q q)
theorem Qm7:PO X none (tO X.K E dNo):=PO.imp Qrc λσ H Q ⟨F,δ,R,EX,rel,hw,k,o⟩=>k _ hw H rel (Kp.refl rel)
theorem Qm6{e:QR}{we:DE}(he:PE X e (tX .P X.K E we)):PO X (some e) (tO X.K E (dSo we)):=by
 refine PO.imp (Qrb he) λσ H Q ⟨F,δ,R,EX,rel,hw,k,o⟩=>?_
 refine⟨F,δ,_,EX,rel,hw,λd hd v H' rel' kp vk=>?_,o⟩;cases d<;>first | exact(show False from hd).elim | skip
 exact⟨_,DP.int vk,k _ hd H' rel' kp⟩
def cutD(xs:List Qb)(lo hi:Option Int):List Qb:=(xs.drop (HT.sIx xs.length 0 lo)).take (HT.sIx xs.length xs.length hi - HT.sIx xs.length 0 lo)
theorem QlC{A:Addr->Prop}{H:Hp}{xs:List V}{ds:List Qb}(q:DAs A H xs ds)(lo hi:Option Int):DAs A H (Qin xs lo hi) (cutD ds lo hi):=by
 unfold Qin cutD;rw[q.length];exact(q.drop _).take _
def slD(d:Qb)(lo hi:Option Int)(Q:Qb->Prop):Prop:=
 match d with
 |.list ds=>Q (.list (cutD ds lo hi))
 |.tuple ds=>Q (.tuple (cutD ds lo hi))
 |_=>False
def dSl(we:DE)(wl wh:DO):DE:=λδ Q EX=>we δ (λd=>wl δ (λlo=>wh δ (λhi=>slD d lo hi Q) EX) EX) EX
def QtG(K:PySem.W.Frag):V->Option Int->Option Int->Hp->VK->Prop:=λx a b H Q=>QxI x a b H Q∨QtF K x a b H Q
theorem Qne{e:QR}{lo hi:Option QR}{we:DE}{wl wh:DO}{p2 pos:Pos}(he:PE X e (tX .P X.K E we))(hl:PO X lo (tO X.K E wl))(hh:PO X hi (tO X.K E wh)):PE X (.Subscript e (.Slice lo hi none p2) pos) (tX .F X.K E (dSl we wl wh)):=by
 refine PE.imp (QmT (r:=QtG X.K) (SlR.or2 Qtt Qmx) he hl hh) λσ H Q ⟨F,δ,R,EX,rel,hw,k,o⟩=>?_
 refine⟨F,δ,_,EX,rel,hw,λd hd v H1 rel1 kp1 vk=>⟨F,δ,_,EX,rel1,hd,λa ha H2 rel2 kp2=>⟨F,δ,_,EX,rel2,ha,λb hb H3 rel3 kp3=>?_,o⟩,o⟩,o⟩;have v3:=kp3.dp (kp2.dp vk);have K3:=(kp1.trans kp2).trans kp3;cases d<;>first | exact(show False from hb).elim | skip
 ·obtain⟨l,xs,rfl,e,q⟩:=DP.list v3;exact .inr ⟨l,xs,rfl,SqL.of e,λp H' s n e'=>k _ hb _ H' (rel3.same s) (K3.trans (Kp.same rel3 s)) ⟨Qce (λa ha=>rel3.isl ha) s n e' (QlC q _ _),YI (QbQ K3 n)⟩⟩
 ·obtain⟨l,xs,rfl,e,q⟩:=DP.tuple v3;exact .inl ⟨l,xs,rfl,e,λp H' s e'=>k _ hb _ H' (rel3.same s) (K3.trans (Kp.same rel3 s)) ⟨QfP (λa ha=>rel3.isl ha) s e' (QlC q _ _),Qdz e'⟩⟩
abbrev DF:=List Sl->(Qb->Prop)->XP->Prop
def Kq(pt:Addr->Prop)(H H':Hp):Prop:=(∀b o,¬pt b->H b=some o->H' b=some o)/\∀p,pt p->∃n,H' p=some (.lst [.int n])
def Zb(fr:Bool)(f:DF):Sp:=λvs H Q Ex=>∃(A pt:Addr->Prop)(args:List Sl)(R:Qb->Prop)(EX:XP),(∀a,A a->∃xs,H a=some (.lst xs))/\(∀p,pt p->A p/\∃n,H p=some (.lst [.int n]))/\Qap (Qjm A pt H) vs args/\f args R EX /\
 (∀d,R d->∀v H',Kq pt H H'->DA A H' v d->(fr=true->FrV H H' v)->Q v H')/\∀C,EX C->∀H',Kq pt H H'->Ex (.ref C) none H'
def QxH:DSl:=λ_ Q _=>Q []
def sV(we:DE)(wr:DSl):DSl:=λδ Q EX=>we δ (λd=>wr δ (λds=>Q (.v d::ds)) EX) EX
def Qwv(i:Nat)(wr:DSl):DSl:=λδ Q EX=>match δ[i]? with
 |some .pot=>wr δ (λds=>Q (.pot::ds)) EX
 |_=>False
theorem Qrp:PA X [] (tAs X.K E QxH):=PA.imp JA λσ H Q ⟨F,δ,R,EX,rel,hw,k,o⟩=>k [] hw [] H rel (Kp.refl rel) .nil
theorem QwL{e:QR}{es:List QR}{we:DE}{wr:DSl}(he:PE X e (tX .D X.K E we))(hr:PA X es (tAs X.K E wr))(hs:notStar e=true:=by rfl):PA X (e::es) (tAs X.K E (sV we wr)):=by
 refine PA.imp (Qcc he hr hs) λσ H Q ⟨F,δ,R,EX,rel,hw,k,o⟩=>?_
 refine⟨F,δ,_,EX,rel,hw,λd hd v H' rel' kp vk=>⟨F,δ,_,EX,rel',hd,λds hds vs H2 rel2 kp2 vks=>?_,o⟩,o⟩;exact k _ hds (v::vs) H2 rel2 (kp.trans kp2) (.cons (kp2.da vk) vks)
theorem Qrm{e:QR}{es:List QR}{i:Nat}{wr:DSl}(he:PE X e (Qde i))(hr:PA X es (tAs X.K E wr))(hs:notStar e=true:=by rfl):PA X (e::es) (tAs X.K E (Qwv i wr)):=by
 refine PA.imp (Qcc he hr hs) λσ H Q ⟨F,δ,R,EX,rel,hw,k,o⟩=>?_
 unfold Qwv at hw;split at hw
 ·rename_i hd
  obtain⟨x,hx⟩:=rel.lt hd;obtain⟨p,n,rfl,e,q⟩:=rel.sl i _ _ hx hd;refine⟨.ref p,hx,F,δ,_,EX,rel,hw,λds hds vs H2 rel2 kp2 vks=>?_,o⟩;exact k _ hds (.ref p::vs) H2 rel2 kp2 (.cons ⟨p,rfl,i,hx,hd⟩ vks)
 ·exact hw.elim
def Qlz(f:DF)(wa:DSl):DE:=λδ Q EX=>wa δ (λargs=>f args Q EX) EX
theorem Kq.kp{K:PySem.W.Frag}{F:Fm}{σ:L2.St}{δ:Sts}{H H':Hp}(k:Kq (ZO σ δ) H H'):Kp σ δ H H':=k
theorem Qgu{m:Md}{fr:Bool}{K:PySem.W.Frag}{f:DF}{wa:DSl}(hm:∀{F:Fm}{σ:L2.St}{δ:Sts}{H H':Hp}{v:V}{d:Qb},DA (Av F σ δ) H' v d->(fr=true->FrV H H' v)->Vok m F σ δ H H' v d)(σ:L2.St)(H:Hp)(Q:VK)(h:tX m K E (Qlz f wa) σ H Q):QpH (Zb fr f) [] E (tAs K E wa) σ H Q:=by
 obtain⟨F,δ,R,EX,rel,hw,k,o⟩:=h;refine⟨F,δ,_,EX,rel,hw,λargs ha vs H1 rel1 kp1 q=>?_,o⟩;show Zb fr f (vs++[]) H1 Q E;rw[ZV];refine⟨Av F σ δ,ZO σ δ,args,R,EX,λa ha=>rel1.isl ha,λp hp=>⟨YN hp,(Kp.refl rel1).2 p hp⟩,q,ha,λd hd v H' kq dv fr=>?_,λC hC H' kq=>o C hC H' (rel1.kp kq).ke⟩;exact k d hd v H' (rel1.kp kq) (kp1.trans kq) (hm dv λz l e1 e2=>QbQ kp1 (fr z l e1 e2))
variable{CX:CXT}{k:Nat}{f:Addr}{fd:QN}{ps:List Str}{x:Str}{p pos:Pos}{e:QR}{es:List QR}{fD:DF}{wa:DSl}
theorem QrB(G:FnOk X.prog X.w X.K X.mg X.base CX k f fd ps (Zb false fD))(hr:Room k X.A)(hg:Gl X x)(hm:X.mg x=some (.ref f))(hk:PySem.W.keepIn X.K (.ref f)=true)(hb:Binds X.K fd ps [])(hx:Qcm CX X E)
  (ha:PA X (e::es) (tAs X.K E wa))(hdb:(x == ("__debug__" : Str))=false:=by decide)(he:starEach (e::es) X.env=(false,eval e X.env)::starEach es X.env:=by rfl)(hpl:(backTo pos (starEach es X.env)).any (·.1)=false:=by rfl) :
  PE X (.Call (.Name x p) (e::es) [] pos) (tX .D X.K E (Qlz fD wa)):=PE.imp (QcH G hr hg hm hk hb .nil hx ha hdb he hpl) (Qgu λh _=>h)
theorem Qnf(G:FnOk X.prog X.w X.K X.mg X.base CX k f fd ps (Zb true fD))(hr:Room k X.A)(hg:Gl X x)(hm:X.mg x=some (.ref f))(hk:PySem.W.keepIn X.K (.ref f)=true)(hb:Binds X.K fd ps [])(hx:Qcm CX X E)
  (ha:PA X (e::es) (tAs X.K E wa))(hdb:(x == ("__debug__" : Str))=false:=by decide)(he:starEach (e::es) X.env=(false,eval e X.env)::starEach es X.env:=by rfl)(hpl:(backTo pos (starEach es X.env)).any (·.1)=false:=by rfl) :
  PE X (.Call (.Name x p) (e::es) [] pos) (tX .F X.K E (Qlz fD wa)):=PE.imp (QcH G hr hg hm hk hb .nil hx ha hdb he hpl) (Qgu λh z=>⟨h,z rfl⟩)
end
abbrev DG:=Qb->Sts->(Sts->Prop)->Prop
def tG(ix:List Nat)(K:PySem.W.Frag)(w:DG):TG:=λv σ H Q=>∃(F:Fm)(δ:Sts)(d:Qb)(R:Sts->Prop),Rel K F σ H δ/\DA (Av F σ δ) H v d/\w d δ R /\
 ∀δ',R δ'->∀σ',Rel K F σ' H δ'->Stp F σ H δ σ' H δ'->σ'.length=σ.length->(∀j,j∉ix->σ'[j]? = σ[j]?)->Q σ' H
theorem YA{α:Type}{l:List α}{i j:Nat}{x:α}(h:j≠i):(l.set i x)[j]? = l[j]? := Qaa (Qa9 h)
theorem set_eq{α:Type}{l:List α}{i:Nat}{x y:α}(h:(l.set i x)[i]? = some y):y=x:=by
 rw[Qol] at h;simp only[if_true] at h;split at h
 ·exact(Qy h).symm
 ·cases h
theorem Qbp{F:Fm}{σ:L2.St}{δ:Sts}{i:Nat}{o:Option V}{d:Qb}{a:Addr}(h:Av F (σ.set i o) (δ.set i (.v d)) a):Av F σ δ a:=by
 rcases h with h | ⟨j,h1,h2⟩
 ·exact .inl h
 ·by_cases z:j=i
  ·subst z;rcases h2 with h2 | ⟨ds,h2⟩<;>cases set_eq h2
  ·rw[YA z] at h1 h2;exact .inr ⟨j,h1,h2⟩
theorem Rel.setv{K:PySem.W.Frag}{F:Fm}{σ:L2.St}{H:Hp}{δ:Sts}(r:Rel K F σ H δ){i:Nat}{v:V}{d:Qb}(q:DA (Av F σ δ) H v d):Rel K F (σ.set i (some v)) H (δ.set i (.v d)) where
 len:=by rw[Zx,Zx];exact r.len
 dom:=r.dom
 dom0:=r.dom0
 pt0:=r.pt0
 kx:=r.kx
 sl:=λj o x h1 h2=>by
  have wk:∀{v:V}{d':Qb},DA (Av F σ δ) H v d'->DA (Av F (σ.set i (some v)) (δ.set i (.v d))) H v d':=λh=>h.mv (λ_ _ _ e=>e) λa z=>.inl (Qbp z)
  by_cases z:j=i
  ·subst z;cases set_eq h1;cases set_eq h2;exact⟨v,rfl,q.mv (λ_ _ _ e=>e) λa z=>.inl (Qbp z)⟩
  ·rw[YA z] at h1 h2;have h:=r.sl j o x h1 h2;cases x with
   |no=>trivial
   |v d=>obtain⟨v',e,q'⟩:=h;exact⟨v',e,q'.mv (λ_ _ _ e=>e) λa z=>.inl (Qbp z)⟩
   |own ds=>obtain⟨l,xs,e,e2,q',f⟩:=h;exact⟨l,xs,e,e2,q'.mv (λ_ _ _ e=>e) λa z=>.inl (Qbp z),f⟩
   |pk ds=>obtain⟨l,xs,e,e2,q',f⟩:=h;exact⟨l,xs,e,e2,q'.mv (λ_ _ _ e=>e) λa z=>.inl (Qbp z),f⟩
   |pot=>exact h
   |scr=>exact h
 inj:=λj k a ds h1 h2 ⟨h3,h4⟩=>by
  by_cases z:j=i
  ·subst z;cases set_eq h1
  ·rw[YA z] at h1 h2;by_cases z2:k=i
   ·subst z2;rcases h4 with h4 | ⟨ds,h4⟩<;>cases set_eq h4
   ·rw[YA z2] at h3 h4;exact r.inj j k a ds h1 h2 ⟨h3,h4⟩
theorem Stp.setv{F:Fm}{σ:L2.St}{H:Hp}{δ:Sts}{i:Nat}{o:Option V}{d:Qb}:Stp F σ H δ (σ.set i o) H (δ.set i (.v d)):=⟨λ_ _ _ e=>e,λa z=>.inl (Qbp z)⟩
def gN(i:Nat):DG:=λd δ Q=>Q (δ.set i (.v d))
def Qdg:Sts->List Nat->List Qb->Sts
 |δ,i::is,d::ds=>Qdg (δ.set i (.v d)) is ds
 |δ,_,_=>δ
def gTN(is:List Nat):DG:=λd δ Q=>match d with
 |.tuple ds=>ds.length=is.length/\Q (Qdg δ is ds)
 |_=>False
section
variable{X:Cx}{E:XK}
theorem PG.imp{e:QR}{t t':TG}(h:PG X e t)(i:∀v σ H Q,t' v σ H Q->t v σ H Q):PG X e t':=λpins s σ H v u Q I r q=>h pins s σ H v u Q I r (i v σ H Q q)
theorem Qnd{e:QR}{i:Nat}(h:PG X e (QbE i)):PG X e (tG [i] X.K (gN i)):=PG.imp h λv σ H Q ⟨F,δ,d,R,rel,dv,hw,k⟩=>
 k _ hw _ (rel.setv dv) Stp.setv (Zx ..) λj hj=>YA λz=>hj (by rw[z];exact JS.mpr rfl)
def gNs:List Nat->TGs
 |[]=>QvK
 |i::is=>Qi8 (QbE i) (gNs is)
theorem Qig{K:PySem.W.Frag}{F:Fm}{H:Hp}{Q:L2.St->Hp->Prop}:∀(is:List Nat)(vs:List V)(ds:List Qb)(σ:L2.St)(δ:Sts),ds.length=is.length->Rel K F σ H δ->DAs (Av F σ δ) H vs ds ->
  (∀σ',Rel K F σ' H (Qdg δ is ds)->Stp F σ H δ σ' H (Qdg δ is ds)->σ'.length=σ.length->(∀j,j∉is->σ'[j]? = σ[j]?)->Q σ' H)->gNs is vs σ H Q
 |[],vs,ds,σ,δ,hl,rel,q,k=>by
  cases ds with
  |nil=>cases q;exact⟨rfl,k σ rel Stp.refl rfl λ_ _=>rfl⟩
  |cons d ds=>cases hl
 |i::is,vs,ds,σ,δ,hl,rel,q,k=>by
  cases ds with
  |nil=>cases hl
  |cons d ds=>
   cases q with
   |@cons v vs _ _ q qs=>
    refine⟨v,vs,rfl,?_⟩;refine Qig is vs ds _ _ (by simpa using hl) (rel.setv q) (qs.mv (λ_ _ _ e=>e) λa z=>.inl (Qbp z)) λσ' r' st hl' hj=>?_
    refine k σ' r' (Stp.setv.trans st) (by rw[hl',Zx]) λj hn=>?_
    rw[hj j (λz=>hn (Q0 _ z)),YA (λz=>hn (by rw[z];exact QV))]
theorem Qrv{e:QR}{n:Nat}{is:List Nat}(h:PG X e (QvJ X.K n (gNs is)))(hn:is.length=n:=by rfl):PG X e (tG is X.K (gTN is)):=PG.imp h λv σ H Q ⟨F,δ,d,R,rel,dv,hw,k⟩=>by
 unfold gTN at hw;split at hw
 ·obtain⟨hl,hR⟩:=hw;cases dv with
  |@tup a xs ds na e q=>
   exact⟨a,xs,rfl,SqT.of e,by rw[q.length,hl,hn],Qig is xs _ σ δ hl rel q λσ' r' st hl' hj=>k _ hR σ' r' st hl' hj⟩
 ·exact hw.elim
def ItD(A S:Addr->Prop)(J:It)(items:List Qb)(H1:Hp):Prop:=items.length<=sizeLine/\∀(H2:Hp)(A':Addr->Prop),(∀b o,S b->H1 b=some o->H2 b=some o)->(∀b,A' b->A b∨H1 b=none)->(∀a,A' a->∃xs,H2 a=some (.lst xs)) ->
 (∀(i:Nat) d,items[i]? = some d->J.go i H2/\∀x H3,J.yld i H2 x H3->Same H2 H3/\DA A' H3 x d)/\J.stop items.length H2
def Sx(m:Md)(F:Fm)(σ:L2.St)(δ:Sts)(b:Addr):Prop:=
 match m with
 |.P=>¬ZO σ δ b
 |_=>¬Av F σ δ b
abbrev DI:=Sts->(List Qb->Prop)->XP->Prop
def tI(m:Md)(K:PySem.W.Frag)(E:XK)(w:DI):TI:=λσ H R=>∃(F:Fm)(δ:Sts)(R':List Qb->Prop)(EX:XP),Rel K F σ H δ/\w δ R' EX/\(∀items,R' items->∀J H',Rel K F σ H' δ->Kp σ δ H H'->ItD (Av F σ δ) (Sx m F σ δ) J items H'->R J H')/\Out F E EX
theorem PI.imp{tg e:QR}{t t':TI}(h:PI X tg e t)(i:∀σ H R,Qcn H->t' σ H R->t σ H R):PI X tg e t':=λpins s σ H R I q=>h pins s σ H R I (i σ H R (Inv.lens I) q)
theorem PI.len{tg e:QR}{t:TI}(h:PI X tg e t):PI X tg e (λσ H R=>t σ H λJ H1=>Qcn H1->R J H1):=λpins s σ H R I q=>by
 refine thn (h pins s σ H _ I q) λv s1 h1=>thn h1 λitv s2 h2=>?_
 obtain⟨it,fp,tn,J,H',e,I',T,t0,fo,hR⟩:=h2;exact⟨it,fp,tn,J,H',e,I',T,t0,fo,hR (Inv.lens I')⟩
def Qx7(w:DE):DI:=λδ Q EX=>w δ (λd=>match d with
 |.list ds=>Q ds
 |_=>False) EX
def Qx6(w:DE):DI:=λδ Q EX=>w δ (λd=>match d with
 |.tuple ds=>Q ds
 |_=>False) EX
theorem Qai{A S:Addr->Prop}{H H2:Hp}{A':Addr->Prop}{xs:List V}{ds:List Qb}(sA:∀b,¬A b->S b)(k:∀b o,S b->H b=some o->H2 b=some o)(m:∀b,A' b->A b∨H b=none)(q:DAs A H xs ds):DAs A' H2 xs ds:=q.mv (λa o n e=>k a o (sA a n) e) m
theorem Qxb{K:PySem.W.Frag}{A S:Addr->Prop}{H:Hp}{l:Addr}{xs:List V}{ds:List Qb}(sA:∀b,¬A b->S b)(sl:S l)(e:H l=some (.lst xs))(q:DAs A H xs ds)(ln:xs.length<=sizeLine):ItD A S (Itl K l) ds H:=by
 refine⟨by rw[<- q.length];exact ln,λH2 A' k m dm=>⟨λi d hd=>?_,xs,SqL.of (k _ _ sl e),by rw[q.length];exact Qh _⟩⟩;obtain⟨x,hx,dx⟩:=(Qai sA k m q).get i d hd;refine⟨⟨xs,x,SqL.of (k _ _ sl e),hx⟩,λy H3 ⟨e3,hy⟩=>?_⟩;subst e3;have:=hy xs (SqL.of (k _ _ sl e));rw[hx] at this;cases this;exact⟨Same.refl _,dx⟩
theorem Qxa{K:PySem.W.Frag}{A S:Addr->Prop}{H:Hp}{l:Addr}{xs:List V}{ds:List Qb}(sA:∀b,¬A b->S b)(sl:S l)(e:H l=some (.tup xs))(q:DAs A H xs ds)(ln:xs.length<=sizeLine):ItD A S (Itt K l) ds H:=by
 refine⟨by rw[<- q.length];exact ln,λH2 A' k m dm=>⟨λi d hd=>?_,xs,SqT.of (k _ _ sl e),by rw[q.length];exact Qh _⟩⟩;obtain⟨x,hx,dx⟩:=(Qai sA k m q).get i d hd;refine⟨⟨xs,x,SqT.of (k _ _ sl e),hx⟩,λy H3 ⟨e3,hy⟩=>?_⟩;subst e3;have:=hy xs (SqT.of (k _ _ sl e));rw[hx] at this;cases this;exact⟨Same.refl _,dx⟩
theorem Qd1{m:Md}{F:Fm}{σ:L2.St}{δ:Sts}{b:Addr}(h:¬Av F σ δ b):Sx m F σ δ b:=by
 cases m
 ·exact h
 ·exact λz=>h (YN z)
 ·exact h
theorem stL{m:Md}{F:Fm}{σ:L2.St}{δ:Sts}{H H':Hp}{v:V}{ds:List Qb}(h:VD m (Av F σ δ) (ZO σ δ) H v (.list ds)):∃l xs,v=.ref l/\Sx m F σ δ l/\H l=some (.lst xs)/\DAs (Av F σ δ) H xs ds:=by
 cases m
 ·cases h with | @lst a xs _ n e q=>exact⟨a,xs,rfl,n,e,q⟩
 ·rcases h with h | ⟨l,xs,ds',rfl,e,n,e2,q⟩
  ·cases h with | @lst a xs _ n e q=>exact⟨a,xs,rfl,Qd1 n,e,q⟩
  ·cases e;exact⟨l,xs,rfl,n,e2,q⟩
 ·cases h with | @lst a xs _ n e q=>exact⟨a,xs,rfl,n,e,q⟩
theorem stT{m:Md}{F:Fm}{σ:L2.St}{δ:Sts}{H H':Hp}{v:V}{ds:List Qb}(h:VD m (Av F σ δ) (ZO σ δ) H v (.tuple ds)):∃l xs,v=.ref l/\Sx m F σ δ l/\H l=some (.tup xs)/\DAs (Av F σ δ) H xs ds:=by
 cases m
 ·cases h with | @tup a xs _ n e q=>exact⟨a,xs,rfl,n,e,q⟩
 ·rcases h with h | ⟨l,xs,ds',rfl,e,n,e2,q⟩
  ·cases h with | @tup a xs _ n e q=>exact⟨a,xs,rfl,Qd1 n,e,q⟩
  ·cases e
 ·cases h with | @tup a xs _ n e q=>exact⟨a,xs,rfl,n,e,q⟩
theorem QcT{m:Md}{F:Fm}{σ:L2.St}{δ:Sts}{H H':Hp}{v:V}{d:Qb}(h:Vok m F σ δ H H' v d):VD m (Av F σ δ) (ZO σ δ) H' v d:=by
 cases m
 ·exact h
 ·exact h
 ·exact h.1
variable{m:Md}{tg e e':QR}{w w':DE}{p pos tpos:Pos}
theorem Qnc(h:PE X e (tX m X.K E w)):PI X tg e (tI m X.K E (Qx7 w)):=by
 refine PI.imp (PI.len (Qks h)) λσ H R _ ⟨F,δ,R',EX,rel,hw,k,o⟩=>?_
 refine⟨F,δ,_,EX,rel,hw,λd hd v H' rel' kp vk=>?_,o⟩;cases d<;>first | exact(show False from hd).elim | skip
 obtain⟨l,xs,rfl,sl,e,q⟩:=stL (H':=H') (QcT vk);exact⟨l,rfl,⟨xs,SqL.of e⟩,λln=>k _ hd _ H' rel' kp (Qxb (λb=>Qd1) sl e q (ln _ _ (.inl e)))⟩
theorem Qru(h:PE X e (tX m X.K E w)):PI X tg e (tI m X.K E (Qx6 w)):=by
 refine PI.imp (PI.len (QtT h)) λσ H R _ ⟨F,δ,R',EX,rel,hw,k,o⟩=>?_
 refine⟨F,δ,_,EX,rel,hw,λd hd v H' rel' kp vk=>?_,o⟩;cases d<;>first | exact(show False from hd).elim | skip
 obtain⟨l,xs,rfl,sl,e,q⟩:=stT (H':=H') (QcT vk);exact⟨l,rfl,⟨xs,SqT.of e⟩,λln=>k _ hd _ H' rel' kp (Qxa (λb=>Qd1) sl e q (ln _ _ (.inr e)))⟩
def QdT(lo:Int)(n:Nat):List Qb:=(Qg n).map λ(i:Nat)=>.int (lo+i)
theorem QbM{lo:Int}{n i:Nat}{d:Qb}(h:(QdT lo n)[i]? = some d):i<n/\d=.int (lo+i):=by
 unfold QdT at h;rw[Qr] at h;by_cases z:i<n
 ·rw[Q9 z] at h;exact⟨z,(Qy h).symm⟩
 ·rw[Q2 (by rw[Qv];omega)] at h;cases h
theorem Qdj{lo:Int}{n:Nat}:(QdT lo n).length=n:=by unfold QdT;rw[Qe,Qv]
theorem QuI{A S:Addr->Prop}{H:Hp}{lo:Int}{n:Nat}(hn:n<=1000000):ItD A S (Itr lo n) (QdT lo n) H:=by
 refine⟨by rw[Qdj];exact QJ hn Qgi,λH2 A' k m dm=>⟨λi d hd=>?_,by rw[Qdj];exact Qh _⟩⟩;obtain⟨hi,rfl⟩:=QbM hd;exact⟨hi,λx H3 ⟨e1,e2⟩=>by subst e1 e2;exact⟨Same.refl _,.int _⟩⟩
def Qu3(w:DE):DI:=λδ Q EX=>w δ (λd=>match d with
 |.int j=>(-1000000<=j/\j<=1000000)/\Q (QdT 0 j.toNat)
 |_=>False) EX
def Qu2(w w':DE):DI:=λδ Q EX=>w δ (λd=>w' δ (λd'=>match d,d' with
 |.int i,.int j=>(-1000000<=i/\i<=1000000 /\ -1000000<=j/\j<=1000000/\j - i<=1000000)/\Q (QdT i (j - i).toNat)
 |_,_=>False) EX) EX
theorem Qnb(hg:Gl X "range")(hm:X.mg "range" = none)(h:PE X e (tX .P X.K E w))(hs:notStar e=true:=by rfl):PI X tg (.Call (.Name "range" p) [e] [] pos) (tI m X.K E (Qu3 w)):=by
 refine PI.imp (Qb9 hg hm (Qcc h JA hs) (by rw[J5 hs];rfl)) λσ H R _ ⟨F,δ,R',EX,rel,hw,k,o⟩=>?_
 refine⟨F,δ,_,EX,rel,hw,λd hd v H' rel' kp vk=>?_,o⟩;cases d<;>first | exact(show False from hd).elim | skip
 obtain⟨⟨h1,h2⟩,hR⟩:=hd;rw[DP.int vk];exact⟨_,rfl,by omega,by omega,k _ hR _ H' rel' kp (QuI (by omega))⟩
theorem Qna(hg:Gl X "range")(hm:X.mg "range" = none)(h:PE X e (tX .P X.K E w))(h':PE X e' (tX .P X.K E w'))(hs:notStar e=true:=by rfl)(hs':notStar e'=true:=by rfl):PI X tg (.Call (.Name "range" p) [e,e'] [] pos) (tI m X.K E (Qu2 w w')):=by
 refine PI.imp (Qkr hg hm (Qcc h (Qcc h' JA hs') hs) (by rw[J5 hs,J5 hs'];rfl) (hs2:=by rw[J5 hs'];rfl)) λσ H R _ ⟨F,δ,R',EX,rel,hw,k,o⟩=>?_
 refine⟨F,δ,_,EX,rel,hw,λd hd v H1 rel1 kp1 vk=>⟨F,δ,_,EX,rel1,hd,λd2 hd2 v2 H2 rel2 kp2 vk2=>?_,o⟩,o⟩;cases d<;>cases d2<;>first | exact(show False from hd2).elim | skip
 obtain⟨⟨h1,h2,h3,h4,h5⟩,hR⟩:=hd2;rw[DP.int vk,DP.int vk2];exact⟨_,_,rfl,⟨by omega,by omega,by omega,by omega⟩,k _ hR _ H2 rel2 (kp1.trans kp2) (QuI (by omega))⟩
theorem Qe6{A':Addr->Prop}{H2:Hp}{r:Addr}{x y:V}{d d':Qb}(dm:∀a,A' a->∃xs,H2 a=some (.lst xs))(n:H2 r=none)(q:DA A' H2 x d)(q':DA A' H2 y d'):DA A' (upd H2 r (.tup [x,y])) (.ref r) (.tuple [d,d']):=
 .tup (λz=>by obtain⟨xs,e⟩:=dm r z;rw[n] at e;cases e) Jh (.cons (q.same (Jg n)) (.cons (q'.same (Jg n)) .nil))
def QdC(ds:List Qb):List Qb:=(Qg ds.length).map λ(i:Nat)=>.tuple [.int i,ds.getD i .none]
theorem QaP{ds:List Qb}{i:Nat}{d:Qb}(h:(QdC ds)[i]? = some d):∃e,ds[i]? = some e/\d=.tuple [.int i,e]:=by
 unfold QdC at h;rw[Qr] at h;by_cases z:i<ds.length
 ·rw[Q9 z] at h;refine⟨ds[i],Qf z,?_⟩;rw[<- Qy h];show Qaw [.int i,ds.getD i .none]=_;rw[Qi,Qf z];rfl
 ·rw[Q2 (by rw[Qv];omega)] at h;cases h
theorem QaO{ds:List Qb}:(QdC ds).length=ds.length:=by unfold QdC;rw[Qe,Qv]
def Qx9(w:DE):DI:=λδ Q EX=>w δ (λd=>match d with
 |.list ds=>Q (QdC ds)
 |_=>False) EX
def Qx8(w:DE):DI:=λδ Q EX=>w δ (λd=>match d with
 |.tuple ds=>Q (QdC ds)
 |_=>False) EX
variable{elts:List QR}
theorem QkC{x1}(hg:Gl X "enumerate")(hm:X.mg "enumerate" = none)(h:PE X e (tX m X.K E w))(hs:notStar e=true:=by rfl):PI X (.Tuple elts x1 tpos) (.Call (.Name "enumerate" p) [e] [] pos) (tI m X.K E (Qx9 w)):=by
 refine PI.imp (PI.len (Qkt hg hm (Qcc h JA hs) (by rw[J5 hs];rfl))) λσ H R _ ⟨F,δ,R',EX,rel,hw,k,o⟩=>?_
 refine⟨F,δ,_,EX,rel,hw,λd hd v H' rel' kp vk=>?_,o⟩;cases d<;>first | exact(show False from hd).elim | skip
 obtain⟨l,xs,rfl,sl,e,q⟩:=stL (H':=H') (QcT vk);refine⟨l,xs,rfl,e,λln=>k _ hd _ H' rel' kp ⟨by rw[QaO,<- q.length];exact ln _ _ (.inl e),λH2 A' kk mm dm=>⟨λi d hd'=>?_,xs,kk _ _ sl e,by rw[QaO,q.length];exact Qh _⟩⟩⟩;obtain⟨d',hd2,rfl⟩:=QaP hd';obtain⟨x,hx,dx⟩:=(Qai (S:=Sx m F σ δ) (λb=>Qd1) kk mm q).get i d' hd2;refine⟨⟨xs,x,kk _ _ sl e,hx⟩,λy H3 ⟨r,x',nr,hx',e1,e2⟩=>?_⟩;subst e1 e2;have:=hx' xs (kk _ _ sl e);rw[hx] at this;cases this;exact⟨Jg nr,Qe6 dm nr (.int _) dx⟩
theorem QkB{x1}(hg:Gl X "enumerate")(hm:X.mg "enumerate" = none)(h:PE X e (tX m X.K E w))(hs:notStar e=true:=by rfl):PI X (.Tuple elts x1 tpos) (.Call (.Name "enumerate" p) [e] [] pos) (tI m X.K E (Qx8 w)):=by
 refine PI.imp (PI.len (QmR hg hm (Qcc h JA hs) (by rw[J5 hs];rfl))) λσ H R _ ⟨F,δ,R',EX,rel,hw,k,o⟩=>?_
 refine⟨F,δ,_,EX,rel,hw,λd hd v H' rel' kp vk=>?_,o⟩;cases d<;>first | exact(show False from hd).elim | skip
 obtain⟨l,xs,rfl,sl,e,q⟩:=stT (H':=H') (QcT vk);refine⟨l,xs,rfl,e,λln=>k _ hd _ H' rel' kp ⟨by rw[QaO,<- q.length];exact ln _ _ (.inr e),λH2 A' kk mm dm=>⟨λi d hd'=>?_,xs,kk _ _ sl e,by rw[QaO,q.length]⟩⟩⟩;obtain⟨d',hd2,rfl⟩:=QaP hd';obtain⟨x,hx,dx⟩:=(Qai (S:=Sx m F σ δ) (λb=>Qd1) kk mm q).get i d' hd2;refine⟨⟨xs,x,kk _ _ sl e,hx⟩,λy H3 ⟨r,x',nr,hx',e1,e2⟩=>?_⟩;subst e1 e2;have:=hx' xs (kk _ _ sl e);rw[hx] at this;cases this;exact⟨Jg nr,Qe6 dm nr (.int _) dx⟩
def QiB(ds es:List Qb):List Qb:=Qjq (λd e=>.tuple [d,e]) ds es
theorem zip_get{ds es:List Qb}{i:Nat}{d:Qb}(h:(QiB ds es)[i]? = some d):∃a b,ds[i]? = some a/\es[i]? = some b/\d=.tuple [a,b]:=by
 unfold QiB at h;rw[List.getElem?_zipWith] at h;cases h1:ds[i]? with
 |none=>rw[h1] at h;cases h
 |some a=>
  cases h2:es[i]? with
  |none=>rw[h1,h2] at h;cases h
  |some b=>rw[h1,h2] at h;exact⟨a,b,rfl,rfl,(Qy h).symm⟩
theorem QeJ{ds es:List Qb}:(QiB ds es).length=min ds.length es.length:=by unfold QiB;rw[List.length_zipWith]
def QxY(w w':DE):DI:=λδ Q EX=>w δ (λd=>w' δ (λd'=>match d,d' with
 |.list ds,.list es=>Q (QiB ds es)
 |_,_=>False) EX) EX
def QxX(w w':DE):DI:=λδ Q EX=>w δ (λd=>w' δ (λd'=>match d,d' with
 |.tuple ds,.tuple es=>Q (QiB ds es)
 |_,_=>False) EX) EX
theorem Qm9{x1}(hg:Gl X "zip")(hm:X.mg "zip" = none)(h:PE X e (tX m X.K E w))(h':PE X e' (tX m X.K E w'))(hs:notStar e=true:=by rfl)(hs':notStar e'=true:=by rfl):PI X (.Tuple elts x1 tpos) (.Call (.Name "zip" p) [e,e'] [] pos) (tI m X.K E (QxY w w')):=by
 refine PI.imp (PI.len (Qrd hg hm (Qcc h (Qcc h' JA hs') hs) (by rw[J5 hs,J5 hs'];rfl) (hs2:=by rw[J5 hs'];rfl))) λσ H R _ ⟨F,δ,R',EX,rel,hw,k,o⟩=>?_
 refine⟨F,δ,_,EX,rel,hw,λd hd v H1 rel1 kp1 vk=>⟨F,δ,_,EX,rel1,hd,λd2 hd2 v2 H2 rel2 kp2 vk2=>?_,o⟩,o⟩;cases d<;>cases d2<;>first | exact(show False from hd2).elim | skip
 obtain⟨l,xs,rfl,sl,e,q⟩:=stL (H':=H2) (kp2.vd (QcT vk));obtain⟨l2,ys,rfl,sl2,e2,q2⟩:=stL (H':=H2) (QcT vk2);refine⟨l,l2,xs,ys,rfl,e,e2,λln=>k _ hd2 _ H2 rel2 (kp1.trans kp2) ⟨?_,λH3 A' kk mm dm=>⟨λi d hd'=>?_,xs,ys,kk _ _ sl e,kk _ _ sl2 e2,by rw[QeJ,q.length,q2.length];omega⟩⟩⟩
 ·rw[QeJ,<- q.length];exact QJ (Qs3 _ _) (ln _ _ (.inl e))
 obtain⟨a,b,ha,hb,rfl⟩:=zip_get hd';obtain⟨x,hx,dx⟩:=(Qai (S:=Sx m F σ δ) (λb=>Qd1) kk mm q).get i a ha;obtain⟨y,hy,dy⟩:=(Qai (S:=Sx m F σ δ) (λb=>Qd1) kk mm q2).get i b hb;refine⟨⟨xs,ys,x,y,kk _ _ sl e,kk _ _ sl2 e2,hx,hy⟩,λz H4 ⟨r,x',y',nr,hx',hy',e1,e3⟩=>?_⟩;subst e1 e3;have h1:=hx' xs (kk _ _ sl e);have h2:=hy' ys (kk _ _ sl2 e2);rw[hx] at h1;rw[hy] at h2;cases h1;cases h2;exact⟨Jg nr,Qe6 dm nr dx dy⟩
theorem Qm8{x1}(hg:Gl X "zip")(hm:X.mg "zip" = none)(h:PE X e (tX m X.K E w))(h':PE X e' (tX m X.K E w'))(hs:notStar e=true:=by rfl)(hs':notStar e'=true:=by rfl):PI X (.Tuple elts x1 tpos) (.Call (.Name "zip" p) [e,e'] [] pos) (tI m X.K E (QxX w w')):=by
 refine PI.imp (PI.len (QtS hg hm (Qcc h (Qcc h' JA hs') hs) (by rw[J5 hs,J5 hs'];rfl) (hs2:=by rw[J5 hs'];rfl))) λσ H R _ ⟨F,δ,R',EX,rel,hw,k,o⟩=>?_
 refine⟨F,δ,_,EX,rel,hw,λd hd v H1 rel1 kp1 vk=>⟨F,δ,_,EX,rel1,hd,λd2 hd2 v2 H2 rel2 kp2 vk2=>?_,o⟩,o⟩;cases d<;>cases d2<;>first | exact(show False from hd2).elim | skip
 obtain⟨l,xs,rfl,sl,e,q⟩:=stT (H':=H2) (kp2.vd (QcT vk));obtain⟨l2,ys,rfl,sl2,e2,q2⟩:=stT (H':=H2) (QcT vk2);refine⟨l,l2,xs,ys,rfl,e,e2,λln=>k _ hd2 _ H2 rel2 (kp1.trans kp2) ⟨?_,λH3 A' kk mm dm=>⟨λi d hd'=>?_,xs,ys,kk _ _ sl e,kk _ _ sl2 e2,by rw[QeJ,q.length,q2.length];omega⟩⟩⟩
 ·rw[QeJ,<- q.length];exact QJ (Qs3 _ _) (ln _ _ (.inr e))
 obtain⟨a,b,ha,hb,rfl⟩:=zip_get hd';obtain⟨x,hx,dx⟩:=(Qai (S:=Sx m F σ δ) (λb=>Qd1) kk mm q).get i a ha;obtain⟨y,hy,dy⟩:=(Qai (S:=Sx m F σ δ) (λb=>Qd1) kk mm q2).get i b hb;refine⟨⟨xs,ys,x,y,kk _ _ sl e,kk _ _ sl2 e2,hx,hy⟩,λz H4 ⟨r,x',y',nr,hx',hy',e1,e3⟩=>?_⟩;subst e1 e3;have h1:=hx' xs (kk _ _ sl e);have h2:=hy' ys (kk _ _ sl2 e2);rw[hx] at h1;rw[hy] at h2;cases h1;cases h2;exact⟨Jg nr,Qe6 dm nr dx dy⟩
end
def QsB:Option Sl->Sl
 |some (.v d)=>.v d
 |some (.own ds)=>.pk ds
 |some (.pk ds)=>.pk ds
 |some .pot=>.pot
 |_=>.no
def Qda(cap:List (Option Nat))(δ:Sts):Sts:=cap.map λo=>match o with
 |none=>.no
 |some j=>QsB δ[j]?
theorem Qfj{cap:List (Option Nat)}{σ:L2.St}{i:Nat}{o:Option V}(h:(QcP cap σ)[i]? = some o):(cap[i]? = some none/\o=none)∨∃j,cap[i]? = some (some j)/\o=(σ[j]?).getD none:=by
 unfold QcP at h;rw[Qr] at h;obtain⟨c,hc,rfl⟩:=ZH.mp h;cases c with
 |none=>exact .inl ⟨hc,rfl⟩
 |some j=>exact .inr ⟨j,hc,rfl⟩
theorem Qfk{cap:List (Option Nat)}{δ:Sts}{i:Nat}{x:Sl}(h:(Qda cap δ)[i]? = some x):(cap[i]? = some none/\x=.no)∨∃j,cap[i]? = some (some j)/\x=QsB δ[j]? := by
 unfold Qda at h;rw[Qr] at h;obtain⟨c,hc,rfl⟩:=ZH.mp h;cases c with
 |none=>exact .inl ⟨hc,rfl⟩
 |some j=>exact .inr ⟨j,hc,rfl⟩
theorem Qao{cap:List (Option Nat)}{σ:L2.St}{δ:Sts}{i:Nat}{o:Option V}{x:Sl}(h1:(QcP cap σ)[i]? = some o)(h2:(Qda cap δ)[i]? = some x)(hx:x≠.no):∃(j:Nat)(y:Sl),δ[j]? = some y/\x=QsB (some y)/\o=(σ[j]?).getD none:=by
 rcases Qfk h2 with⟨_,e⟩ | ⟨j,hj,e⟩
 ·exact absurd e hx
 ·rcases Qfj h1 with⟨z,_⟩ | ⟨j',hj',e'⟩
  ·rw[hj] at z;cases z
  ·rw[hj] at hj';cases hj';cases e2:δ[j]? with
   |none=>rw[e2] at e;exact absurd e hx
   |some y=>exact⟨j,y,e2,by rw[e,e2],e'⟩
theorem QbS{cap:List (Option Nat)}{σ:L2.St}{δ:Sts}{a:Addr}(h:ZO (QcP cap σ) (Qda cap δ) a):ZO σ δ a:=by
 obtain⟨i,h1,h2⟩:=h;obtain⟨j,y,hy,e,eo⟩:=Qao h1 h2 (λz=>by cases z);cases y<;>first | (cases e;done) | skip
 refine⟨j,?_,hy⟩;cases e2:σ[j]? with
 |none=>rw[e2] at eo;cases eo
 |some o'=>rw[e2] at eo;exact congrArg some eo.symm
def inF(A1:Addr->Prop)(cap:List (Option Nat))(σ:L2.St)(δ:Sts)(H:Hp):Fm:=⟨H,A1,ZO (QcP cap σ) (Qda cap δ)⟩
theorem Qif{A1:Addr->Prop}{cap:List (Option Nat)}{σ:L2.St}{δ:Sts}{H:Hp}(h:∀a,ZO σ δ a->A1 a){a:Addr}:Av (inF A1 cap σ δ H) (QcP cap σ) (Qda cap δ) a↔A1 a:=by
 constructor
 ·rintro(z | ⟨i,h1,h2⟩)
  ·exact z
  ·rcases h2 with h2 | ⟨ds,h2⟩
   ·exact h a (QbS ⟨i,h1,h2⟩)
   ·obtain⟨j,y,hy,e,eo⟩:=Qao h1 h2 (λz=>by cases z);cases y<;>cases e
 ·exact .inl
theorem Qld{K:PySem.W.Frag}{F:Fm}{σ:L2.St}{δ:Sts}{H1 H3:Hp}{A1:Addr->Prop}{cap:List (Option Nat)}(rel:Rel K F σ H1 δ)(hA:∀a,Av F σ δ a->A1 a)(hN:∀a,A1 a->Av F σ δ a∨H1 a=none)
  (dm:∀a,A1 a->∃xs,H3 a=some (.lst xs))(kp:Kp σ δ H1 H3):Rel K (inF A1 cap σ δ H3) (QcP cap σ) H3 (Qda cap δ) where
 len:=by unfold QcP Qda;rw[Qe,Qe]
 dom:=dm
 dom0:=dm
 pt0:=λp hp=>⟨hA p (YN (QbS hp)),kp.2 p (QbS hp)⟩
 kx:=λb o _ e=>e
 sl:=λi o x h1 h2=>by
  have iv:∀{a:Addr},Av (inF A1 cap σ δ H3) (QcP cap σ) (Qda cap δ) a->A1 a:=λ{a}=>(Qif λa z=>hA a (YN z)).mp
  have mv:∀{v:V}{d:Qb},DA (Av F σ δ) H1 v d->DA (Av (inF A1 cap σ δ H3) (QcP cap σ) (Qda cap δ)) H3 v d:=λq=>q.mv (λa o n e=>kp.1 a o (λz=>n (YN z)) e) λa z=>hN a (iv z)
  have mvs:∀{v:List V}{d:List Qb},DAs (Av F σ δ) H1 v d->DAs (Av (inF A1 cap σ δ H3) (QcP cap σ) (Qda cap δ)) H3 v d:=λq=>q.mv (λa o n e=>kp.1 a o (λz=>n (YN z)) e) λa z=>hN a (iv z)
  cases x with
  |no=>trivial
  |own ds=>
   obtain⟨j,y,hy,e,eo⟩:=Qao h1 h2 (λz=>by cases z);cases y<;>cases e
  |scr=>
   obtain⟨j,y,hy,e,eo⟩:=Qao h1 h2 (λz=>by cases z);cases y<;>cases e
  |v d=>
   obtain⟨j,y,hy,e,eo⟩:=Qao h1 h2 (λz=>by cases z);cases y<;>first | (cases e;done) | skip
   cases e;obtain⟨x,hx⟩:=rel.lt hy;obtain⟨v,rfl,q⟩:=rel.sl j _ _ hx hy;rw[hx] at eo;exact⟨v,eo,mv q⟩
  |pk ds=>
   obtain⟨j,y,hy,e,eo⟩:=Qao h1 h2 (λz=>by cases z);cases y<;>first | (cases e;done) | skip
   ·cases e;obtain⟨x,hx⟩:=rel.lt hy;obtain⟨l,xs,rfl,e,q,f⟩:=rel.sl j _ _ hx hy;rw[hx] at eo;have np:=rel.own_pot hy hx;exact⟨l,xs,eo,kp.1 _ _ np e,mvs q,xs,kp.1 _ _ np e,λz=>np (QbS z)⟩
   ·cases e;obtain⟨x,hx⟩:=rel.lt hy;obtain⟨l,xs,rfl,e,q,ys,f,f2⟩:=rel.sl j _ _ hx hy;rw[hx] at eo;have np:¬ZO σ δ l:=by
     rintro⟨j,j1,j2⟩;obtain⟨p,m,e1,_,w⟩:=rel.sl j _ _ j1 j2;cases e1;rcases w with w | w
     ·exact f2 w
     ·rw[w] at f;cases f
    exact⟨l,xs,eo,kp.1 _ _ np e,mvs q,xs,kp.1 _ _ np e,λz=>np (QbS z)⟩
  |pot=>
   obtain⟨j,y,hy,e,eo⟩:=Qao h1 h2 (λz=>by cases z);cases y<;>first | (cases e;done) | skip
   obtain⟨x,hx⟩:=rel.lt hy;obtain⟨p,n,rfl,e,q⟩:=rel.sl j _ _ hx hy;rw[hx] at eo;obtain⟨m,em⟩:=kp.2 p ⟨j,hx,hy⟩;have eo':o=some (.ref p):=eo;subst eo';exact⟨p,m,rfl,em,.inl ⟨i,h1,h2⟩⟩
 inj:=λi j a ds h1 h2 _=>by
  obtain⟨j,y,hy,e,eo⟩:=Qao h2 h1 (λz=>by cases z);cases y<;>cases e
theorem Qmn:∀{σ σ':L2.St},σ'.length=σ.length->(∀(i:Nat) v,σ[i]? = some (some v)->σ'[i]? = some (some v))->Wk σ σ'
 |[],[],_,_=>trivial
 |[],_::_,h,_=>by cases h
 |_::_,[],h,_=>by cases h
 |none::a,x::b,h,g=>Qmn (σ:=a) (σ':=b) (by simpa using h) λi v e=>by simpa using g (i+1) v (by simpa using e)
 |some u::a,x::b,h,g=>by
  have h0:=g 0 u rfl;simp only[QhJ,Option.some.injEq] at h0;subst h0;exact⟨rfl,Qmn (σ:=a) (σ':=b) (by simpa using h) λi v e=>by simpa using g (i+1) v (by simpa using e)⟩
def QcO(cap:List (Option Nat))(ix:List Nat):Bool:=ix.all λi=>match cap[i]? with
 |some none=>true
 |_=>false
theorem Qpe{cap:List (Option Nat)}{ix:List Nat}(hf:QcO cap ix=true){σ σ4:L2.St}(hl:σ4.length=(QcP cap σ).length)(hj:∀j,j∉ix->σ4[j]? = (QcP cap σ)[j]?):Wk (QcP cap σ) σ4:=by
 refine Qmn hl λi v e=>?_
 by_cases z:i∈ix
 ·have:=JL.mp hf i z;rcases Qfj e with⟨_,e2⟩ | ⟨j,hj2,_⟩
  ·cases e2
  ·rw[hj2] at this;cases this
 ·rw[hj i z];exact e
def XF:XP:=λ_=>False
@[irreducible] def QgF(items:List Qb)(wg:DG)(wt:DT)(we:DE)(δ:Sts)(Q:Qb->Prop):Prop:=∃Iv:Nat->List Qb->Prop,Iv 0 [] /\
 (∀(i:Nat) acc d,items[i]? = some d->Iv i acc->wg d δ λδ4=>wt δ4 (λb=>if b=true then we δ4 (λe=>Iv (i+1) (acc++[e])) XF else Iv (i+1) acc) XF)/\∀acc,Iv items.length acc->Q (.list acc)
def dComp(cap:List (Option Nat))(wi:DI)(wg:DG)(wt:DT)(we:DE):DE:=λδ Q EX=>wi δ (λitems=>QgF items wg wt we (Qda cap δ) Q) EX
def QvL:DT:=λ_ Q _=>Q true
section
variable{X:Cx}{E:XK}
theorem QoM{F:Fm}{E:XK}:Out F E XF:=λ_ z=>z.elim
theorem PTs.imp{es:List QR}{t t':TT}(h:PTs X es t)(i:∀σ H Q,t' σ H Q->t σ H Q):PTs X es t':=λpins s σ H Q I q=>h pins s σ H Q I (i σ H Q q)
theorem QmX:PTs X [] (tT X.K E QvL):=PTs.imp QcF λσ H Q ⟨F,δ,R,EX,rel,hw,k,o⟩=>k _ hw H rel (Kp.refl rel)
theorem QmW{c:QR}{t:DT}(h:PT X c (tT X.K E t)):PTs X [c] (tT X.K E t):=Qkm h
theorem Qhl{K:PySem.W.Frag}{A1:Addr->Prop}{cap:List (Option Nat)}{σ σ4:L2.St}{δ δ4:Sts}{H3 H4:Hp}(r:Rel K (inF A1 cap σ δ H3) σ4 H4 δ4)(hk:∀b o,¬ZO σ δ b->H4 b=some o->H3 b=none->False){b:Addr}(h:ZO σ4 δ4 b):ZO σ δ b:=by
 obtain⟨i,h1,h2⟩:=h;obtain⟨p,n,e,hp,w⟩:=r.sl i _ _ h1 h2;cases e;rcases w with w | w
 ·exact QbS w
 ·by_cases z:ZO σ δ b
  ·exact z
  ·exact(hk b _ z hp w).elim
theorem QpD{K:PySem.W.Frag}{F:Fm}{σ:L2.St}{δ:Sts}{H1 H3:Hp}{cap:List (Option Nat)}{ix:List Nat}{wg:DG}{wt:DT}{A1:Addr->Prop}{x:V}{d:Qb}{inner:L2.St->Hp->(Hp->Prop)->Prop}{kk:Hp->Prop}{T:Sts->Prop}{N:Prop}
  (hf:QcO cap ix=true)(rel:Rel K F σ H1 δ)(hA:∀a,Av F σ δ a->A1 a)(hN:∀a,A1 a->Av F σ δ a∨H1 a=none)(dm:∀a,A1 a->∃xs,H3 a=some (.lst xs))(kp:Kp σ δ H1 H3)(dx:DA A1 H3 x d)
  (h:wg d (Qda cap δ) λδ4=>wt δ4 (λb=>if b=true then T δ4 else N) XF)
  (hT:∀σ4 δ4 H5,T δ4->Rel K (inF A1 cap σ δ H3) σ4 H5 δ4->Kp σ δ H3 H5->(∀b,ZO σ4 δ4 b->ZO σ δ b)->inner σ4 H5 kk)(hF:N->∀H5,Kp σ δ H3 H5->kk H5) :
  bOf (QcP cap σ) (tG ix K wg) (tT K E0 wt) inner x H3 kk:=by
 have ri:=Qld (cap:=cap) rel hA hN dm kp;have iv:∀{a:Addr},Av (inF A1 cap σ δ H3) (QcP cap σ) (Qda cap δ) a->A1 a:=λ{a}=>(Qif λa z=>hA a (YN z)).mp
 refine⟨inF A1 cap σ δ H3,Qda cap δ,d,_,ri,dx.mv (λ_ _ _ e=>e) λa z=>.inl (iv z),h,λδ4 h4 σ4 r4 st4 l4 j4=>⟨Qpe hf l4 j4,inF A1 cap σ δ H3,δ4,_,XF,r4,h4,λb hb H5 r5 kp5=>?_,QoM⟩⟩;have pots:∀{b:Addr},ZO σ4 δ4 b->ZO σ δ b:=λz=>Qhl r4 (λb o _ e1 e2=>by rw[e2] at e1;cases e1) z
 have K5:Kp σ δ H3 H5:=by
  refine⟨λb o n e=>kp5.1 b o (λz=>n (pots z)) e,λb hb=>?_⟩;by_cases z:ZO σ4 δ4 b
  ·exact kp5.2 b z
  ·obtain⟨n,e⟩:=kp.2 b hb;exact⟨n,kp5.1 _ _ z e⟩
 exact Qdy hb (λz=>hT σ4 δ4 H5 z r5 K5 λb=>pots) λz=>hF z H5 K5
structure Lp (σ:L2.St) (δ:Sts) (A1:Addr->Prop) (p:Addr) (H1 H2:Hp) (acc:List Qb):Prop where
 kp:Kp σ δ H1 H2
 at_:∃ys,H2 p=some (.lst ys)/\DAs A1 H2 ys acc
theorem Lp.step{σ:L2.St}{δ:Sts}{A1:Addr->Prop}{p:Addr}{H1 H2 H3:Hp}{acc:List Qb}(hpA:∀a,ZO σ δ a->A1 a)(hpn:¬ZO σ δ p)(h:Lp σ δ A1 p H1 H2 acc)(k:Kp σ δ H2 H3):Lp σ δ A1 p H1 H3 acc:=by
 obtain⟨ys,e,q⟩:=h.at_;exact⟨h.kp.trans k,ys,k.1 _ _ hpn e,q.mv (λa o n e=>k.1 a o (λz=>n (hpA a z)) e) λa z=>.inl z⟩
theorem QuT{K:PySem.W.Frag}{σ σ4:L2.St}{δ δ4:Sts}{H1 H3 H5:Hp}{cap:List (Option Nat)}{we:DE}{A1:Addr->Prop}{p:Addr}{acc:List Qb}{kk:Hp->Prop}{G:Qb->Prop}
  (hpA:A1 p)(hP:∀a,ZO σ δ a->A1 a)(hp1:H1 p=none)(hpn:¬ZO σ δ p)(lp:Lp σ δ A1 p H1 H5 acc)(hl:acc.length<sizeLine)(r5:Rel K (inF A1 cap σ δ H3) σ4 H5 δ4)(pots:∀b,ZO σ4 δ4 b->ZO σ δ b)
  (h:we δ4 G XF)(hk:∀e,G e->∀H',Lp σ δ A1 p H1 H' (acc++[e])->kk H'):Qpg p (tX .D K E0 we) σ4 H5 kk:=by
 refine⟨inF A1 cap σ δ H3,δ4,G,XF,r5,h,λe he v H6 r6 kp6 dv=>?_,QoM⟩;have k56:Kp σ δ H5 H6:=by
  refine⟨λb o n e=>kp6.1 b o (λz=>n (pots b z)) e,λb hb=>?_⟩;by_cases z:ZO σ4 δ4 b
  ·exact kp6.2 b z
  ·obtain⟨n,e⟩:=lp.kp.2 b hb;exact⟨n,kp6.1 _ _ z e⟩
 obtain⟨k6,ys,e6,q6⟩:=lp.step hP hpn k56;have up:∀{b:Addr}{o:HO},¬A1 b->H6 b=some o->upd H6 p (.lst (ys++[v])) b=some o:=λ{b o} n e=>by rw[JC (λz=>n (by rw[z];exact hpA))];exact e
 refine⟨ys,e6,by rw[q6.length];exact hl,hk e he _ ⟨⟨λb o n e=>?_,λb hb=>?_⟩,ys++[v],Jh,DAs.app (q6.mv (λ_ _=>up) λa z=>.inl z) (.cons (DA.mv dv (λa o n e=>up (λz=>n (.inl z)) e) λa z=>.inl (.inl z)) .nil)⟩⟩
 ·rw[JC (λz=>by rw[z,hp1] at e;cases e)];exact k6.1 b o n e
 ·rw[JC (λz=>hpn (by rw[<- z];exact hb))];exact k6.2 b hb
theorem Qrz{M:List Str}{cap:List (Option Nat)}{elt tg iter:QR}{ifs:List QR}{scope:YW}{pos:Pos}{ix:List Nat}{wi:DI}{wg:DG}{wt:DT}{we:DE}(hc:X.calm=true)(ok:Qhy X.N X.env.scope M scope cap=true)(hf:QcO cap ix=true)
  (hi:PI X tg iter (tI .P X.K E wi))(hb:∀cl ex s3 H3 C,PG (blk X M scope cl ex s3 H3 C) tg (tG ix X.K wg)/\PTs (blk X M scope cl ex s3 H3 C) ifs (tT X.K E0 wt)/\PE (blk X M scope cl ex s3 H3 C) elt (tX .D X.K E0 we))
  (hs:∀x,foldedSetIterable iter X.env x=pure x:=by intro _;rfl):PE X (.ListComp elt [⟨tg,iter,ifs,0⟩] scope pos) (tX .F X.K E (dComp cap wi wg wt we)):=by
 refine PE.imp (Qcb hc ok hi hb hs) λσ H Q ⟨F,δ,R,EX,rel,hw,k,o⟩=>?_
 refine⟨F,δ,_,EX,rel,hw,λitems hC J H1 rel1 kp1 ⟨ln,it⟩ p hp=>?_,o⟩;unfold QgF at hC;obtain⟨Iv,i0,step,fin⟩:=hC;have hpn:¬ZO σ δ p:=λz=>by obtain⟨xs,e⟩:=rel1.isl (YN (F:=F) z);rw[hp] at e;cases e
 let A1:Addr->Prop:=λa=>Av F σ δ a∨a=p
 have hP:∀a,ZO σ δ a->A1 a:=λa z=>.inl (YN z)
 have hN:∀a,A1 a->Av F σ δ a∨H1 a=none:=λa z=>z.elim .inl λz=>.inr (by rw[z];exact hp)
 have dmK:∀{H2:Hp},Kp σ δ H1 H2->(∃ys,H2 p=some (.lst ys))->∀a,A1 a->∃xs,H2 a=some (.lst xs):=λ{H2} k2 e2 a z=>by
  rcases z with z | z
  ·exact(rel1.kp k2).isl z
  ·rw[z];exact e2
 refine QbP items.length (λi H2=>i<=items.length/\∃acc,Iv i acc/\acc.length<=i/\Lp σ δ A1 p H1 H2 acc) ⟨Js _,[],i0,Qh _,Kp.same rel1 (Jg hp),[],Jh,.nil⟩ (λi H2 hi ⟨_,acc,iv,hl,lp⟩=>?_) λH2 ⟨_,acc,iv,hl,lp⟩=>?_
 ·obtain⟨k2,ys,e2,q2⟩:=lp;obtain⟨go,_⟩:=it H2 A1 (λb o n e=>k2.1 b o n e) hN (dmK k2 ⟨ys,e2⟩);have hd:items[i]? = some items[i]:=Qf hi;obtain⟨g1,g2⟩:=go i _ hd;refine⟨g1,λx H3 y kk hk=>?_⟩;obtain⟨s3,dx⟩:=g2 x H3 y;have k23:=Kp.same (rel1.kp k2) s3;have lp3:Lp σ δ A1 p H1 H3 acc:=Lp.step hP hpn ⟨k2,ys,e2,q2⟩ k23;refine QpD hf rel1 (λa z=>.inl z) hN (dmK lp3.kp ⟨ys,s3 _ _ e2⟩) lp3.kp dx (step i acc _ hd iv) (λσ4 δ4 H5 h5 r5 k5 pots=>?_) λh5 H5 k5=>hk _ ⟨hi,acc,h5,by omega,lp3.step hP hpn k5⟩
  exact QuT (.inr rfl) hP hp hpn (lp3.step hP hpn k5) (by omega) r5 pots h5 λe he H' lp'=>hk _ ⟨hi,acc++[e],he,by rw[QM];show _+1<=_;omega,lp'⟩
 ·obtain⟨k2,ys,e2,q2⟩:=lp;obtain⟨_,st⟩:=it H2 A1 (λb o n e=>k2.1 b o n e) hN (dmK k2 ⟨ys,e2⟩);refine⟨st,k _ (fin acc iv) (.ref p) H2 (rel1.kp k2) (kp1.trans k2) ⟨.lst (λz=>?_) e2 (q2.mv (λ_ _ _ e=>e) λa z=>.inl (.inl z)),λl e1 _=>?_⟩⟩
  ·obtain⟨xs,e⟩:=rel1.isl z;rw[hp] at e;cases e
  ·cases e1;exact QbQ kp1 hp
theorem Qve{items:List Qb}{wg:DG}{wt:DT}{we:DE}{δ:Sts}{Q:Qb->Prop}(G:Qb->Option Qb)
  (h:∀d∈items,∀(k1:Prop)(k2:Qb->Prop),(G d=none->k1)->(∀e,G d=some e->k2 e)->wg d δ λδ4=>wt δ4 (λb=>if b=true then we δ4 k2 XF else k1) XF)(q:Q (.list (items.filterMap G))) :
  QgF items wg wt we δ Q:=by
 unfold QgF;refine⟨λi acc=>acc=(items.take i).filterMap G,by simp,λi acc d hd e=>?_,λacc e=>by rw[e,ZI];exact q⟩;have hs:(items.take (i+1)).filterMap G=(items.take i).filterMap G++(G d).toList:=by
  rw[YJ,hd,YV];cases e2:G d<;>simp[e2]
 have e:acc=(items.take i).filterMap G:=e;refine h d (Ji hd) _ _ (λe2=>?_) λe' e2=>?_
 ·show acc=(items.take (i+1)).filterMap G;rw[hs,e2,e];simp
 ·show acc++[e']=(items.take (i+1)).filterMap G;rw[hs,e2,e];rfl
theorem Qci{items:List Qb}{wg:DG}{we:DE}{δ:Sts}{Q:Qb->Prop}(G:Qb->Qb)
  (h:∀d∈items,∀(k2:Qb->Prop),k2 (G d)->wg d δ λδ4=>we δ4 k2 XF)(q:Q (.list (items.map G))) :
  QgF items wg QvL we δ Q:=by
 unfold QgF;refine⟨λi acc=>acc=(items.take i).map G,by simp,λi acc d hd e=>?_,λacc e=>by rw[e,ZI];exact q⟩;have hs:(items.take (i+1)).map G=(items.take i).map G++[G d]:=by
  rw[YJ,hd,Zg];simp
 have e:acc=(items.take i).map G:=e;have hh:=h d (Ji hd) (λe=>acc++[e]=(items.take (i+1)).map G) (by show acc++[G d]=_;rw[hs,e]);simp only[QvL,if_true];exact hh
end
theorem Qlq:∀{a b:List (Int×Int)},dkV a=dkV b->a=b
 |[],[],_=>rfl
 |[],_::_,h=>by cases h
 |_::_,[],h=>by cases h
 |p::a,q::b,h=>by
  have h:=QaH (show(Qb1 p.1,V.int p.2)::dkV a=(Qb1 q.1,V.int q.2)::dkV b from h);have h1:=Y9 h.1;rw[Qlq h.2,QeC (QsZ h1.1) (V.int.inj h1.2)]
mutual
theorem Qlw{A B:Addr->Prop}{H:Hp}:∀(d d':Qb)(x:V),DA A H x d->DA B H x d'->d=d'
 |.none,d',_,.non,h=>by cases h;rfl
 |.bool _,d',_,.bl _,h=>by cases h;rfl
 |.int _,d',_,.int _,h=>by cases h;rfl
 |.str _,d',_,.str _ _,h=>by cases h;rfl
 |.tuple ds,d',_,.tup (xs:=xs) n e q,h=>by
  cases h with
  |@tup a ys es n' e' q'=>
   rw[e] at e';cases e';rw[Qff ds es xs q q']
  |@lst a ys es n' e' q'=>rw[e] at e';cases e'
  |@dct a kvs' ds' n' e' q'=>rw[e] at e';cases e'
 |.list ds,d',_,.lst (xs:=xs) n e q,h=>by
  cases h with
  |@tup a ys es n' e' q'=>rw[e] at e';cases e'
  |@lst a ys es n' e' q'=>
   rw[e] at e';cases e';rw[Qff ds es xs q q']
  |@dct a kvs' ds' n' e' q'=>rw[e] at e';cases e'
 |.dict _,d',_,.dct (kvs:=kvs) n e q,h=>by
  cases h with
  |@tup a ys es n' e' q'=>rw[e] at e';cases e'
  |@lst a ys es n' e' q'=>rw[e] at e';cases e'
  |@dct a kvs' ds' n' e' q'=>
   rw[e] at e';rw[q,q',Qlq (HO.dK.inj (Qy e'))]
theorem Qff{A B:Addr->Prop}{H:Hp}:∀(ds es:List Qb)(xs:List V),DAs A H xs ds->DAs B H xs es->ds=es
 |[],es,_,.nil,h=>by cases h;rfl
 |d::ds,es,_,.cons q qs,h=>by
  cases h with
  |@cons x xs e es q' qs'=>rw[Qlw d e _ q q',Qff ds es _ qs qs']
end
mutual
theorem QuX{A:Addr->Prop}{H:Hp}{l:Addr}{rs:List Qb}(root:DA A H (.ref l) (.list rs)):∀(d:Qb)(x:V),sizeOf d<sizeOf (Zz rs)->DA A H x d->DA (λa=>A a∨a=l) H x d
 |.none,_,_,.non=>.non
 |.bool _,_,_,.bl _=>.bl _
 |.int _,_,_,.int _=>.int _
 |.str _,_,_,.str _ c=>.str _ c
 |.tuple ds,_,hs,.tup (a:=a) (xs:=xs) n e q=>.tup (λz=>z.elim n λz=>by subst z;cases root with | @lst _ ys _ n' e' q'=>(rw[e] at e';cases e')) e (Qfg root ds xs (by simp at hs ⊢;omega) q)
 |.list ds,_,hs,.lst (a:=a) (xs:=xs) n e q=>.lst (λz=>z.elim n λz=>by
   subst z;have:=Qlw _ _ _ root (.lst n e q);rw[this] at hs;omega) e (Qfg root ds xs (by simp at hs ⊢;omega) q)
 |.dict _,_,hs,.dct (a:=a) n e q=>.dct (λz=>z.elim n λz=>by subst z;cases root with | @lst _ ys _ n' e' q'=>(rw[e] at e';cases e')) e q
theorem Qfg{A:Addr->Prop}{H:Hp}{l:Addr}{rs:List Qb}(root:DA A H (.ref l) (.list rs)):∀(ds:List Qb)(xs:List V),sizeOf ds<sizeOf (Zz rs)->DAs A H xs ds->DAs (λa=>A a∨a=l) H xs ds
 |[],_,_,.nil=>.nil
 |d::ds,_,hs,.cons q qs=>.cons (QuX root d _ (by simp at hs ⊢;omega) q) (Qfg root ds _ (by simp at hs ⊢;omega) qs)
end
theorem DA.items{A:Addr->Prop}{H:Hp}{l:Addr}{ds:List Qb}(root:DA A H (.ref l) (.list ds)):∃xs,H l=some (.lst xs)/\DAs (λa=>A a∨a=l) H xs ds:=by
 have root':=root;cases root with
 |@lst _ xs _ n e q=>exact⟨xs,e,Qfg root' ds xs (by simp) q⟩
structure QdN where
 nx:Sts->Prop
 rt:Qb->Prop
 rtF:Qb->Prop
 bk:Sts->Prop
 ct:Sts->Prop
 ex:XP
abbrev DS:=QdN->Sts->Prop
structure Nx (K:PySem.W.Frag) (F:Fm) (σ:L2.St) (H:Hp) (δ:Sts) (R:Sts->Prop) (T:L2.St->Hp->Prop):Prop where
 go:∀δ',R δ'->∀σ' H',Rel K F σ' H' δ'->Stp F σ H δ σ' H' δ'->T σ' H'
structure Ends1 (K:PySem.W.Frag) (E:XK) (F:Fm) (σ:L2.St) (H:Hp) (δ:Sts) (DD:QdN) (D:Ends):Prop where
 nx:Nx K F σ H δ DD.nx D.nx
 rt:∀d,DD.rt d->∀v H',Ke F H'->DA F.A0 H' v d->D.rt v H'
 rtF:∀d,DD.rtF d->∀v H',Ke F H'->DA F.A0 H' v d->FrV F.H0 H' v->D.rt v H'
 bk:Nx K F σ H δ DD.bk D.bk
 ct:Nx K F σ H δ DD.ct D.ct
 ex:Out F E DD.ex
def tS(K:PySem.W.Frag)(E:XK)(w:DS):TS:=λD σ H=>∃(F:Fm)(δ:Sts)(DD:QdN),Rel K F σ H δ/\w DD δ/\Ends1 K E F σ H δ DD D
theorem Nx.step{K:PySem.W.Frag}{F:Fm}{σ σ1:L2.St}{H H1:Hp}{δ δ1:Sts}{R:Sts->Prop}{T:L2.St->Hp->Prop}(h:Nx K F σ H δ R T)(s:Stp F σ H δ σ1 H1 δ1):Nx K F σ1 H1 δ1 R T:=⟨λδ' hR σ' H' r st=>h.go δ' hR σ' H' r (s.trans st)⟩
theorem Ends1.step{K:PySem.W.Frag}{E:XK}{F:Fm}{σ σ1:L2.St}{H H1:Hp}{δ δ1:Sts}{DD:QdN}{D:Ends}(h:Ends1 K E F σ H δ DD D)(s:Stp F σ H δ σ1 H1 δ1):Ends1 K E F σ1 H1 δ1 DD D:=⟨h.nx.step s,h.rt,h.rtF,h.bk.step s,h.ct.step s,h.ex⟩
section
variable{X:Cx}{E:XK}
theorem PS.imp{e:ZG}{t t':TS}(h:PS X e t)(i:∀D σ H,t' D σ H->t D σ H):PS X e t':=λpins s σ H D I q=>h pins s σ H D I (i D σ H q)
theorem PSs.imp{e:List ZG}{t t':TS}(h:PSs X e t)(i:∀D σ H,t' D σ H->t D σ H):PSs X e t':=λpins s σ H D I q=>h pins s σ H D I (i D σ H q)
def Qx0(a b:DS):DS:=λD δ=>a { D with nx:=b D } δ
def QuZ:DS:=λD δ=>D.nx δ
theorem QmY:PSs X [] (tS X.K E QuZ):=PSs.imp QcG λD σ H ⟨F,δ,DD,rel,hw,en⟩=>en.nx.go δ hw σ H rel Stp.refl
theorem Qro{st:ZG}{w:DS}(h:PS X st (tS X.K E w)):PSs X [st] (tS X.K E w):=Z8 h
theorem Qm4{st:ZG}{rest:List ZG}{w w':DS}(h:PS X st (tS X.K E w))(h':PSs X rest (tS X.K E w')):PSs X (st::rest) (tS X.K E (Qx0 w w')):=by
 refine PSs.imp (Zs h h') λD σ H ⟨F,δ,DD,rel,hw,en⟩=>?_
 exact⟨F,δ,_,rel,hw,⟨λδ' h' σ' H' r st=>⟨F,δ',DD,r,h',en.step st⟩⟩,en.rt,en.rtF,en.bk,en.ct,en.ex⟩
def Qxr(i:Nat)(we:DE):DS:=λD δ=>we δ (λd=>D.nx (δ.set i (.v d))) D.ex
def Qu1(i:Nat)(we:DE):DS:=λD δ=>we δ (λd=>match d with
 |.list ds=>D.nx (δ.set i (.own ds))
 |_=>False) D.ex
def Qu0(i:Nat)(we:DE):DS:=λD δ=>we δ (λd=>match d with
 |.list [.int _]=>D.nx (δ.set i .pot)
 |_=>False) D.ex
variable{i:Nat}{e:QR}{st:ZG}{we wi:DE}
theorem Qky(h:PS X st (QpI (tX .D X.K E we) (QbE i))):PS X st (tS X.K E (Qxr i we)):=by
 refine PS.imp h λD σ H ⟨F,δ,DD,rel,hw,en⟩=>?_
 refine⟨F,δ,_,DD.ex,rel,hw,λd hd v H' rel' kp vk=>?_,en.ex⟩;exact en.nx.go _ hd _ H' (rel'.setv vk) ((Stp.kp kp).trans Stp.setv)
theorem Qph{F:Fm}{σ:L2.St}{δ:Sts}{i:Nat}{l:Addr}{x:Sl}{a:Addr}(h:Av F (σ.set i (some (.ref l))) (δ.set i x) a):Av F σ δ a∨a=l:=by
 rcases h with h | ⟨j,h1,h2⟩
 ·exact .inl (.inl h)
 ·by_cases z:j=i
  ·subst z;cases set_eq h1;exact .inr rfl
  ·rw[YA z] at h1 h2;exact .inl (.inr ⟨j,h1,h2⟩)
theorem Rel.seto{K:PySem.W.Frag}{F:Fm}{σ:L2.St}{H H':Hp}{δ:Sts}{l:Addr}{x:Sl}(r:Rel K F σ H δ)(r':Rel K F σ H' δ)(kp:Kp σ δ H H')(n:H l=none)(hx:∀A:Addr->Prop,(∀a,A a->Av F σ δ a∨H a=none)->(∀a,A a->Av F σ δ a∨a=l)->Qyb K F H' A (some (.ref l)) x) :
  Rel K F (σ.set i (some (.ref l))) H' (δ.set i x)/\Stp F σ H δ (σ.set i (some (.ref l))) H' (δ.set i x):=by
 have nA:∀a,Av F (σ.set i (some (.ref l))) (δ.set i x) a->Av F σ δ a∨H a=none:=λa z=>(Qph z).elim .inl λz=>.inr (by rw[z];exact n)
 have kk:∀a o,¬Av F σ δ a->H a=some o->H' a=some o:=λa o m e=>kp.1 a o (λz=>m (YN z)) e
 refine⟨?_,⟨kk,nA⟩⟩;exact{
  len:=by rw[Zx,Zx];exact r.len
  dom:=r'.dom
  dom0:=r'.dom0
  pt0:=r'.pt0
  kx:=r'.kx
  sl:=λj o y h1 h2=>by
   by_cases z:j=i
   ·subst z;cases set_eq h1;cases set_eq h2;exact hx _ nA λa z=>Qph z
   ·rw[YA z] at h1 h2;have h:=r.sl j o y h1 h2;have h':=r'.sl j o y h1 h2;cases y with
    |no=>trivial
    |v d=>obtain⟨v',e,q'⟩:=h;exact⟨v',e,q'.mv kk nA⟩
    |own ds=>obtain⟨l',xs,rfl,e2,q',f⟩:=h;exact⟨l',xs,rfl,kp.1 _ _ (r.own_pot h2 h1) e2,q'.mv kk nA,f⟩
    |pk ds=>
     obtain⟨l',xs,rfl,e2,q',ys,f,f2⟩:=h;refine⟨l',xs,rfl,kp.1 _ _ ?_ e2,q'.mv kk nA,ys,f,f2⟩;rintro⟨j,j1,j2⟩;obtain⟨p,m,e1,_,w⟩:=r.sl j _ _ j1 j2;cases e1;rcases w with w | w
     ·exact f2 w
     ·rw[w] at f;cases f
    |pot=>exact h'
    |scr=>exact h'
  inj:=λj k a ds h1 h2 ⟨h3,h4⟩=>by
   have ne:∀(k:Nat),k≠i->σ[k]? = some (some (.ref l))->(δ[k]? = some .pot∨∃ds,δ[k]? = some (.own ds))->False:=λk _ h3 h4=>by
    obtain⟨xs,e⟩:=r.isl (a:=l) (.inr ⟨k,h3,h4⟩);rw[n] at e;cases e
   by_cases z:j=i
   ·subst z;cases set_eq h2;by_cases z2:k=j
    ·exact z2.symm
    ·rw[YA z2] at h3 h4;exact(ne k z2 h3 h4).elim
   ·rw[YA z] at h1 h2;by_cases z2:k=i
    ·subst z2;cases set_eq h3;exact(ne j z h2 (.inr ⟨ds,h1⟩)).elim
    ·rw[YA z2] at h3 h4;exact r.inj j k a ds h1 h2 ⟨h3,h4⟩ }
theorem Qlk{K:PySem.W.Frag}{F:Fm}{σ:L2.St}{H:Hp}{δ:Sts}(r:Rel K F σ H δ){l:Addr}(n:H l=none):F.H0 l=none:=by
 cases e:F.H0 l with
 |none=>rfl
 |some o=>
  by_cases z:F.pt l
  ·obtain⟨_,m,e'⟩:=r.pt0 l z;rw[n] at e';cases e'
  ·rw[r.kx l o z e] at n;cases n
theorem Qm0(h:PS X st (QpI (tX .F X.K E we) (QbE i))):PS X st (tS X.K E (Qu1 i we)):=by
 refine PS.imp h λD σ H ⟨F,δ,DD,rel,hw,en⟩=>?_
 refine⟨F,δ,_,DD.ex,rel,hw,λd hd v H' rel' kp ⟨vk,fr⟩=>?_,en.ex⟩;obtain⟨ds,rfl⟩:∃ds,d=.list ds:=by cases d<;>first | exact⟨_,rfl⟩ | exact(show False from hd).elim
 obtain⟨l,rfl⟩:∃l,v=.ref l:=by cases vk;exact⟨_,rfl⟩
 obtain⟨xs,e,q⟩:=DA.items vk;have n:=fr l rfl ⟨xs,e⟩;obtain⟨r2,st⟩:=rel.seto (i:=i) (x:=.own ds) rel' kp n λA hA hB=>⟨l,xs,rfl,e,q.mv (λ_ _ _ e=>e) λa z=>.inl (hB a z),Qlk rel n⟩
 exact en.nx.go _ hd _ H' r2 st
theorem QmZ(h:PS X st (QpI (tX .F X.K E we) (QbE i))):PS X st (tS X.K E (Qu0 i we)):=by
 refine PS.imp h λD σ H ⟨F,δ,DD,rel,hw,en⟩=>?_
 refine⟨F,δ,_,DD.ex,rel,hw,λd hd v H' rel' kp ⟨vk,fr⟩=>?_,en.ex⟩;split at hd
 ·cases vk with
  |@lst l xs ds na e q=>
   have n:=fr l rfl ⟨xs,e⟩;cases q with
   |cons q1 q2=>
    cases q1;cases q2;obtain⟨r2,st⟩:=rel.seto (i:=i) (x:=.pot) rel' kp n λA hA hB=>⟨l,_,rfl,e,.inr (Qlk rel n)⟩
    exact en.nx.go _ hd _ H' r2 st
 ·exact hd.elim
def Qya(we:DE)(wg:DG):DS:=λD δ=>we δ (λd=>wg d δ D.nx) D.ex
theorem Qrs{ix:List Nat}{wg:DG}(h:PS X st (QpI (tX .D X.K E we) (tG ix X.K wg))):PS X st (tS X.K E (Qya we wg)):=by
 refine PS.imp h λD σ H ⟨F,δ,DD,rel,hw,en⟩=>?_
 refine⟨F,δ,_,DD.ex,rel,hw,λd hd v H' rel' kp vk=>?_,en.ex⟩;exact⟨F,δ,d,_,rel',vk,hd,λδ' h' σ' r' st' _ _=>en.nx.go _ h' _ H' r' ((Stp.kp kp).trans st')⟩
def Qx2(i j:Nat)(wa:DAr):DS:=λD δ=>wa δ (λds=>match ds with
 |[a,b]=>D.nx ((δ.set i (.v a)).set j (.v b))
 |_=>False) D.ex
theorem Qrn{n i j:Nat}{wa:DAr}(h:PS X st (QxE i j (tAr n .D X.K E wa))):PS X st (tS X.K E (Qx2 i j wa)):=by
 refine PS.imp h λD σ H ⟨F,δ,DD,rel,hw,en⟩=>?_
 refine⟨F,δ,_,DD.ex,rel,hw,λds hds _ vs H' rel' kp q=>?_,en.ex⟩;split at hds
 ·cases q with
  |cons q1 q2=>cases q2 with
   |cons q2 q3=>
    cases q3;refine⟨_,_,rfl,en.nx.go _ hds _ H' ((rel'.setv q1).setv (DA.mv q2 (λ_ _ _ e=>e) λa z=>.inl (Qbp z))) (((Stp.kp kp).trans Stp.setv).trans Stp.setv)⟩
 ·exact hds.elim
def Qx1(we:DE):DS:=λD δ=>we δ D.rt D.ex
def Qu4(we:DE):DS:=λD δ=>we δ D.rtF D.ex
theorem Qsn{F:Fm}{σ:L2.St}{δ:Sts}{H:Hp}{v:V}{d:Qb}(h:DA (Av F σ δ) H v d):DA F.A0 H v d:=h.mv (λ_ _ _ e=>e) λa z=>.inl (.inl z)
theorem Qrl{e:QR}{pos:Pos}(h:PE X e (tX .D X.K E we)):PS X (.Return (some e) pos) (tS X.K E (Qx1 we)):=by
 refine PS.imp (Qal h) λD σ H ⟨F,δ,DD,rel,hw,en⟩=>?_
 exact⟨F,δ,_,DD.ex,rel,hw,λd hd v H' rel' kp vk=>en.rt d hd v H' rel'.ke (Qsn vk),en.ex⟩
theorem Qm2{e:QR}{pos:Pos}(h:PE X e (tX .F X.K E we)):PS X (.Return (some e) pos) (tS X.K E (Qu4 we)):=by
 refine PS.imp (Qal h) λD σ H ⟨F,δ,DD,rel,hw,en⟩=>?_
 exact⟨F,δ,_,DD.ex,rel,hw,λd hd v H' rel' kp vk=>en.rtF d hd v H' rel'.ke (Qsn vk.1) λl e1 e2=>Qlk rel (vk.2 l e1 e2),en.ex⟩
def Qso(i:Nat):DS:=λD δ=>match δ[i]? with
 |some (.own ds)=>D.rtF (.list ds)
 |some (.v d)=>D.rt d
 |_=>False
theorem Qm1{e:QR}{pos:Pos}(h:PE X e (Qde i)):PS X (.Return (some e) pos) (tS X.K E (Qso i)):=by
 refine PS.imp (Qal h) λD σ H ⟨F,δ,DD,rel,hw,en⟩=>?_
 unfold Qso at hw;split at hw
 ·rename_i ds hd
  obtain⟨x,hx⟩:=rel.lt hd;obtain⟨l,xs,rfl,e,q,f⟩:=rel.sl i _ _ hx hd;refine⟨_,hx,en.rtF _ hw _ H rel.ke (.lst (λz=>?_) e (q.mv (λ_ _ _ e=>e) λa z=>.inl (.inl z))) λl' e1 _=>by cases e1;exact f⟩;obtain⟨ys,e'⟩:=rel.dom0 l z;rw[f] at e';cases e'
 ·rename_i d hd
  obtain⟨x,hx⟩:=rel.lt hd;obtain⟨v,rfl,q⟩:=rel.sl i _ _ hx hd;exact⟨v,hx,en.rt _ hw _ H rel.ke (Qsn q)⟩
 ·exact hw.elim
def dIf(t:DT)(a b:DS):DS:=λD δ=>t δ (λc=>if c=true then a D δ else b D δ) D.ex
theorem Qt0{c:QR}{a b:List ZG}{pos:Pos}{t:DT}{w w':DS}(hc:PT X c (tT X.K E t))(ha:PSs X a (tS X.K E w))(hb:PSs X b (tS X.K E w')):PS X (.If c a b pos) (tS X.K E (dIf t w w')):=by
 refine PS.imp (QiS hc ha hb) λD σ H ⟨F,δ,DD,rel,hw,en⟩=>?_
 exact⟨F,δ,_,DD.ex,rel,hw,λb hb H' rel' kp=>Qdy hb (λz=>⟨F,δ,DD,rel',z,en.step (Stp.kp kp)⟩) λz=>⟨F,δ,DD,rel',z,en.step (Stp.kp kp)⟩,en.ex⟩
theorem Qkz{sts:List ZG}:PSs X sts (tS X.K E λ_ _=>False):=λpins s σ H D I ⟨F,δ,DD,rel,hw,en⟩=>hw.elim
theorem QrX{g:Int->Int->Int}:QsI (ipI g) (ii0 λi j=>.int (g i j)):=λA P H x y d1 d2 R Q ln dm hx hy h k=>by
 cases d1<;>cases d2<;>first | exact h.elim | skip
 rw[hx.int,hy.int];exact⟨_,_,rfl,rfl,k _ h _ H (Same.refl H) (.int _)⟩
theorem PIp.len{op:QeE}{t:TIp}(h:PIp X op t):PIp X op (λx y H Q=>Qcn H->t x y H Q):=λpins s σ H x y v u Q I rx ry q=>h pins s σ H x y v u Q I rx ry (q (Inv.lens I))
theorem Rel.mut{K:PySem.W.Frag}{F:Fm}{σ:L2.St}{H:Hp}{δ:Sts}(r:Rel K F σ H δ){l:Addr}{ds ds':List Qb}{ys:List V}(h:δ[i]? = some (.own ds))(hx:σ[i]? = some (some (.ref l)))(q:DAs (Av F σ δ) H ys ds') :
  Rel K F σ (upd H l (.lst ys)) (δ.set i (.own ds'))/\Stp F σ H δ σ (upd H l (.lst ys)) (δ.set i (.own ds')):=by
 have hl:Av F σ δ l:=.inr ⟨i,hx,.inr ⟨ds,h⟩⟩;obtain⟨l',xs0,e0,el,_,f⟩:=r.sl i _ _ hx h;cases e0;have lt:i < δ.length:=(Jm.mp h).1;have ge:(δ.set i (.own ds'))[i]? = some (.own ds'):=by rw[QbG lt]
 have kk:∀a o,¬Av F σ δ a->H a=some o->upd H l (.lst ys) a=some o:=λa o n e=>by rw[JC (λz=>n (by rw[z];exact hl))];exact e
 have av:∀a,Av F σ (δ.set i (.own ds')) a->Av F σ δ a:=λa z=>by
  rcases z with z | ⟨j,h1,h2⟩
  ·exact .inl z
  ·by_cases z:j=i
   ·subst z;exact .inr ⟨j,h1,.inr ⟨ds,h⟩⟩
   ·rw[YA z] at h2;exact .inr ⟨j,h1,h2⟩
 have up:∀{b:Addr}{o:HO},b≠l->H b=some o->upd H l (.lst ys) b=some o:=λn e=>by rw[JC n];exact e
 refine⟨?_,⟨kk,λa z=>.inl (av a z)⟩⟩;exact{
  len:=by rw[Zx];exact r.len
  dom:=λa ha=>by
   by_cases z:a=l
   ·rw[z];exact⟨_,Jh⟩
   ·obtain⟨xs,e⟩:=r.dom a ha;exact⟨xs,up z e⟩
  dom0:=r.dom0
  pt0:=λp hp=>by
   obtain⟨h1,n,e⟩:=r.pt0 p hp;refine⟨h1,n,up (λz=>?_) e⟩;obtain⟨xs,e'⟩:=r.dom0 p h1;rw[z,f] at e';cases e'
  kx:=λb o n e=>up (λz=>by rw[z,f] at e;cases e) (r.kx b o n e)
  sl:=λj o y h1 h2=>by
   by_cases z:j=i
   ·subst z;rw[ge] at h2;cases h2;rw[hx] at h1;cases h1;exact⟨l,ys,rfl,Jh,q.mv kk λa z=>.inl (av a z),f⟩
   ·rw[YA z] at h2;have hh:=r.sl j o y h1 h2;cases y with
    |no=>trivial
    |v d=>obtain⟨v',e,q'⟩:=hh;exact⟨v',e,q'.mv kk λa z=>.inl (av a z)⟩
    |own es=>
     obtain⟨l',xs,rfl,e2,q',f'⟩:=hh;exact⟨l',xs,rfl,up (λz2=>z (r.inj j i l' es h2 h1 ⟨by rw[z2];exact hx,.inr ⟨ds,h⟩⟩)) e2,q'.mv kk λa z=>.inl (av a z),f'⟩
    |pk es=>
     obtain⟨l',xs,rfl,e2,q',ys',f',f2⟩:=hh;exact⟨l',xs,rfl,up (λz2=>by rw[z2,f] at f';cases f') e2,q'.mv kk λa z=>.inl (av a z),ys',f',f2⟩
    |pot=>
     obtain⟨p,n,rfl,e2,w⟩:=hh;refine⟨p,n,rfl,up (λz2=>?_) e2,w⟩;subst z2;exact r.own_pot h hx ⟨j,h1,h2⟩
    |scr=>exact hh
  inj:=λj k a es h1 h2 ⟨h3,h4⟩=>by
   have h4':δ[k]? = some .pot∨∃ds,δ[k]? = some (.own ds):=by
    by_cases z:k=i
    ·subst z;exact .inr ⟨ds,h⟩
    ·rw[YA z] at h4;exact h4
   by_cases z:j=i
   ·subst z;exact r.inj j k a ds h h2 ⟨h3,h4'⟩
   ·rw[YA z] at h1;exact r.inj j k a es h1 h2 ⟨h3,h4'⟩ }
def Qxu(i:Nat)(we:DE):DS:=λD δ=>match δ[i]? with
 |some (.own ds)=>we δ (λd=>ds.length<1000000/\D.nx (δ.set i (.own (ds++[d])))) D.ex
 |_=>False
theorem Qrt(h:PS X st (Qmt (tBM X.K "list" Qg1 (Qde i) (Qa5 (tX .D X.K E we) QjU)))):PS X st (tS X.K E (Qxu i we)):=by
 refine PS.imp h λD σ H ⟨F,δ,DD,rel,hw,en⟩=>?_
 unfold Qxu at hw;split at hw
 ·rename_i ds hd
  obtain⟨x,hx⟩:=rel.lt hd;obtain⟨l,xs,rfl,e,q,f⟩:=rel.sl i _ _ hx hd;have np:=rel.own_pot hd hx;refine⟨.ref l,hx,.inl ⟨rfl,_,SqL.of e⟩,F,δ,_,DD.ex,rel,hw,λd ⟨hl,hn⟩ v H' rel' kp vk=>?_,en.ex⟩;have q':=kp.das q;refine⟨l,xs,v,rfl,rfl,kp.1 _ _ np e,QH (by rw[q.length];exact hl) Qgi,?_⟩;obtain⟨r2,st⟩:=rel'.mut hd hx (q'.app (.cons vk .nil));exact en.nx.go _ hn _ _ r2 ((Stp.kp kp).trans st)
 ·exact hw.elim
def Qsr(i:Nat)(rD:Qb->Qb->(Qb->Prop)->Prop)(wi we:DE):DS:=λD δ=>match δ[i]? with
 |some (.own ds)=>wi δ (λz=>match z with
  |.int k=>∃j a,ixN ds.length k=some j/\ds[j]? = some a/\we δ (λe=>rD a e λb=>D.nx (δ.set i (.own (ds.set j b)))) D.ex
  |_=>False) D.ex
 |_=>False
theorem Qm5{r:TIp}{rD:Qb->Qb->(Qb->Prop)->Prop}(hd:QsI r rD)(h:PS X st (Qtn (Qde i) (tX .P X.K E wi) (tX .P X.K E we) (QvE X.K) (λx y H Q=>Qcn H->r x y H Q) QtH)):PS X st (tS X.K E (Qsr i rD wi we)):=by
 refine PS.imp h λD σ H ⟨F,δ,DD,rel,hw,en⟩=>?_
 unfold Qsr at hw;split at hw
 ·rename_i ds hds
  obtain⟨x,hx⟩:=rel.lt hds;obtain⟨l,xs,rfl,e,q,f⟩:=rel.sl i _ _ hx hds;have np:=rel.own_pot hds hx;refine⟨.ref l,hx,F,δ,_,DD.ex,rel,hw,λz hz y H1 rel1 kp1 yk=>?_,en.ex⟩;cases z<;>first | exact(show False from hz).elim | skip
  obtain⟨j,a,hj,ha,hn⟩:=hz;have q1:=kp1.das q;obtain⟨va,hva,da⟩:=q1.get j a ha;rw[DP.int yk];refine⟨l,xs,_,va,rfl,rfl,SqL.of (kp1.1 _ _ np e),by unfold atI;rw[q.length,hj];exact hva,F,δ,_,DD.ex,rel1,hn,λb hb u H2 rel2 kp2 uk ln=>?_,en.ex⟩;refine hd (Av F σ δ) (ZO σ δ) H2 va u a b _ _ ln (λa ha=>rel2.isl ha) (.inl (kp2.da da)) uk hb λc hc w H3 s dw=>?_
  have r3:=rel2.same s;have k3:=kp2.trans (Kp.same rel2 s);refine⟨l,xs,_,j,rfl,rfl,k3.1 _ _ np (kp1.1 _ _ np e),by rw[q.length];exact hj,?_⟩;obtain⟨r4,st⟩:=r3.mut hds hx ((k3.das q1).set dw j);exact en.nx.go _ hc _ _ r4 (((Stp.kp kp1).trans (Stp.kp k3)).trans st)
 ·exact hw.elim
@[irreducible] def QsK(items:List Qb)(wg:DG)(wb:DS)(D:QdN)(δ:Sts):Prop:=∃Iv:Nat->Sts->Prop,Iv 0 δ/\(∀(i:Nat) d δ,items[i]? = some d->Iv i δ->wg d δ λδ2=>wb { D with nx:=Iv (i+1),ct:=Iv (i+1),bk:=D.nx } δ2)/\∀δ,Iv items.length δ->D.nx δ
def dFor(wi:DI)(wg:DG)(wb:DS):DS:=λD δ=>wi δ (λitems=>QsK items wg wb D δ) D.ex
theorem Qrr{tg iter:QR}{body:List ZG}{pos:Pos}{ix:List Nat}{wi:DI}{wg:DG}{wb:DS}(hp:QeD (model X.prog X.w) X.A X.env X.xe)(hc:X.calm=true)(hi:PI X tg iter (tI .D X.K E wi))(hg:PG X tg (tG ix X.K wg))(hb:PSs X body (tS X.K E wb))
  (hs:∀x,foldedSetIterable iter X.env x=pure x:=by intro _;rfl):PS X (.For tg iter body [] pos) (tS X.K E (dFor wi wg wb)):=by
 refine PS.imp (QoF hp hc hi hg hb hs) λD σ H ⟨F,δ,DD,rel,hw,en⟩=>?_
 refine⟨F,δ,_,DD.ex,rel,hw,λitems hC J H1 rel1 kp1 ⟨ln,it⟩=>?_,en.ex⟩;unfold QsK at hC;obtain⟨Iv,i0,step,fin⟩:=hC;have en1:=en.step (Stp.kp (F:=F) kp1);refine⟨λi m σ' H'=>m=items.length - i/\i<=items.length/\∃δ',Iv i δ'/\Rel X.K F σ' H' δ'/\Stp F σ H1 δ σ' H' δ',⟨_,rfl,Js _,δ,i0,rel1,Stp.refl⟩,?_⟩;rintro i m σ' H' ⟨rfl,hi',δ',iv,r',st'⟩;obtain⟨go,stop⟩:=it H' (Av F σ' δ') st'.1 st'.2 λa ha=>r'.isl ha
 by_cases hlt:i<items.length
 ·have hd:items[i]? = some items[i]:=Qf hlt;obtain⟨g1,g2⟩:=go i _ hd;refine .inr ⟨g1,λσ2 H2=>∃δ2,Iv (i+1) δ2/\Rel X.K F σ2 H2 δ2/\Stp F σ H1 δ σ2 H2 δ2,λσ2 H2 ⟨δ2,h2,r2,s2⟩=>⟨_,by omega,rfl,hlt,δ2,h2,r2,s2⟩,λx H3 y=>?_⟩;obtain⟨s3,dx⟩:=g2 x H3 y;have r3:=r'.same s3;have st3:Stp F σ H1 δ σ' H3 δ':=st'.trans (Stp.kp (Kp.same r' s3));refine⟨F,δ',_,_,r3,dx,step i _ δ' hd iv,λδ4 h4 σ4 r4 st4 _ _=>⟨F,δ4,_,r4,h4,?_⟩⟩;have st5:=st3.trans st4;exact⟨⟨λδ6 h6 σ6 H6 r6 s6=>⟨δ6,h6,r6,st5.trans s6⟩⟩,en.rt,en.rtF,(en1.step st5).nx,⟨λδ6 h6 σ6 H6 r6 s6=>⟨δ6,h6,r6,st5.trans s6⟩⟩,en.ex⟩
 ·have e:i=items.length:=by omega
  subst e;exact .inl ⟨stop,(en1.step st').nx.go δ' (fin δ' iv) σ' H' r' Stp.refl⟩
theorem Qho{lo:Int}{n:Nat}{wg:DG}{wb:DS}{D:QdN}{δ:Sts}(Iv:Nat->Sts->Prop)(h0:Iv 0 δ)
  (hs:∀(i:Nat) δ,i<n->Iv i δ->wg (.int (lo+i)) δ λδ2=>wb { D with nx:=Iv (i+1),ct:=Iv (i+1),bk:=D.nx } δ2)(hd:∀δ,Iv n δ->D.nx δ):QsK (QdT lo n) wg wb D δ:=by
 unfold QsK;exact⟨Iv,h0,λi d δ hd iv=>by obtain⟨hi,rfl⟩:=QbM hd;exact hs i δ hi iv,λδ iv=>hd δ (by rw[Qdj] at iv;exact iv)⟩
theorem QdA{items:List Qb}{wg:DG}{wb:DS}{D:QdN}{δ:Sts}(Iv:Nat->Sts->Prop)(h0:Iv 0 δ)
  (hs:∀(i:Nat) d δ,items[i]? = some d->Iv i δ->wg d δ λδ2=>wb { D with nx:=Iv (i+1),ct:=Iv (i+1),bk:=D.nx } δ2)(hd:∀δ,Iv items.length δ->D.nx δ):QsK items wg wb D δ:=by
 unfold QsK;exact⟨Iv,h0,hs,hd⟩
end
def stD(N:List Str)(args:List Sl):Sts:=args++Q4 (N.length - args.length) .no
theorem Qel{α β:Type}{R:α->β->Prop}:∀{xs:List α}{ys:List β},Qap R xs ys->∀(i:Nat) x y,xs[i]? = some x->ys[i]? = some y->R x y
 |_,_,.nil,i,x,y,h,_=>by simp at h
 |_,_,.cons a b,0,x,y,h,h'=>by simp at h h';subst h h';exact a
 |_,_,.cons a b,i+1,x,y,h,h'=>Qel b i x y (by simpa using h) (by simpa using h')
theorem QjX{K:PySem.W.Frag}{N:List Str}{A pt:Addr->Prop}{H:Hp}{vs:List V}{args:List Sl}(dm:∀a,A a->∃xs,H a=some (.lst xs))(hp:∀p,pt p->A p/\∃n,H p=some (.lst [.int n]))(q:Qap (Qjm A pt H) vs args):Rel K ⟨H,A,pt⟩ (L2.start N vs) H (stD N args):=by
 have hl:vs.length=args.length:=q.length;have no:∀(i:Nat) x,(stD N args)[i]? = some x->(i<args.length/\args[i]? = some x)∨x=.no:=λi x h=>by
  unfold stD at h;by_cases z:i<args.length
  ·rw[QaU z] at h;exact .inl ⟨z,h⟩
  ·rw[QaE (by omega),ZB] at h;split at h
   ·exact .inr (Qy h).symm
   ·cases h
 have arg:∀(i:Nat) o x,(L2.start N vs)[i]? = some o->(stD N args)[i]? = some x->x≠.no->∃v,o=some v/\Qjm A pt H v x:=λi o x h1 h2 hx=>by
  rcases no i x h2 with⟨z,e⟩ | e
  ·unfold L2.start at h1;rw[QaU (by rw[Qe];omega),Qr] at h1;obtain⟨v,hv,rfl⟩:=ZH.mp h1;exact⟨v,rfl,Qel q i v x hv e⟩
  ·exact absurd e hx
 have av:∀a,Av ⟨H,A,pt⟩ (L2.start N vs) (stD N args) a->A a:=λa z=>by
  rcases z with z | ⟨i,h1,h2⟩
  ·exact z
  ·rcases h2 with h2 | ⟨ds,h2⟩
   ·obtain⟨v,e,p,rfl,hp'⟩:=arg i _ _ h1 h2 (λz=>by cases z);cases e;exact(hp _ hp').1
   ·obtain⟨v,e,hh⟩:=arg i _ _ h1 h2 (λz=>by cases z);exact hh.elim
 exact{
  len:=by unfold L2.start stD;rw[QM,QM,Qe,YU,YU,hl]
  dom:=dm
  dom0:=dm
  pt0:=hp
  kx:=λ_ _ _ e=>e
  sl:=λi o x h1 h2=>by
   cases x with
   |no=>trivial
   |v d=>
    obtain⟨v,e,hh⟩:=arg i _ _ h1 h2 (λz=>by cases z);exact⟨v,e,DA.mv hh (λ_ _ _ e=>e) λa z=>.inl (av a z)⟩
   |pot=>
    obtain⟨v,e,p,rfl,hp'⟩:=arg i _ _ h1 h2 (λz=>by cases z);obtain⟨_,n,en⟩:=hp p hp';exact⟨p,n,e,en,.inl hp'⟩
   |own ds=>obtain⟨v,e,hh⟩:=arg i _ _ h1 h2 (λz=>by cases z);exact hh.elim
   |pk ds=>obtain⟨v,e,hh⟩:=arg i _ _ h1 h2 (λz=>by cases z);exact hh.elim
   |scr=>obtain⟨v,e,hh⟩:=arg i _ _ h1 h2 (λz=>by cases z);exact hh.elim
  inj:=λi j a ds h1 h2 _=>by
   obtain⟨v,e,hh⟩:=arg i _ _ h2 h1 (λz=>by cases z);exact hh.elim }
def Qyu:Qb->Bool
 |.list _=>false
 |_=>true
def rtD:Bool->(Qb->Prop)->Qb->Prop
 |true,R,d=>Qyu d=true/\R d
 |false,R,d=>R d
def Qsj(fr:Bool)(R:Qb->Prop)(EX:XP):QdN:=⟨λ_=>R .none,rtD fr R,R,λ_=>False,λ_=>False,EX⟩
theorem Qsi{K:PySem.W.Frag}{E Ex:XK}{fr:Bool}{A pt:Addr->Prop}{H:Hp}{R:Qb->Prop}{EX EX':XP}{Q:VK}{σ:L2.St}{δ:Sts}(k:∀d,R d->∀v H',Kq pt H H'->DA A H' v d->(fr=true->FrV H H' v)->Q v H')(o:Out ⟨H,A,pt⟩ E EX') :
  Ends1 K E ⟨H,A,pt⟩ σ H δ (Qsj fr R EX') { nx:=λ_ H'=>Q .non H',rt:=Q } where
 nx:=⟨λδ' hR σ' H' r st=>k _ hR _ H' r.ke .non λ_=>Qsh⟩
 rt:=λd h v H' ke dv=>by
  cases fr with
  |false=>exact k d h v H' ke dv λz=>by cases z
  |true=>
   obtain⟨h1,h2⟩:=h;refine k d h2 v H' ke dv λz l e1 ⟨xs,e2⟩=>?_
   subst e1;cases dv with
   |@tup a ys ds n e q=>rw[e] at e2;cases e2
   |@lst a ys ds n e q=>cases h1
   |@dct a kvs ds n e q=>rw[e] at e2;cases e2
 rtF:=λd h v H' ke dv fr'=>k d h v H' ke dv λ_=>fr'
 bk:=⟨λ_ h=>h.elim⟩
 ct:=⟨λ_ h=>h.elim⟩
 ex:=o
section
variable{P:Qz}{w:Jf}{K:PySem.W.Frag}{mg:Str->Option Value}{base:JR}
theorem okD{x qual:Str}{st:ZG}{f:Addr}{fd:QN}{N ps:List Str}{k:Nat}{fD:DF}(fr:Bool)(F:Fun K x qual st f fd)(S:Jq N ps (Qt st))(len:∀args R EX,fD args R EX->args.length=ps.length)
  (hbody:∀(cdv:Value)(A:Jb)(outer:List Env)(s:Shared)(H:Hp)(E:XK),Room k (A.deeper (envOfC qual (Qt st) s.heap.objs.size f cdv)) ->
   ∃wd,PSs (QlA CX0 P w K mg base N qual (Qt st) f cdv A outer s H E).nox (Jj st) (tS K E0 wd)/\∀args R EX,fD args R EX->wd (Qsj fr R XF) (stD N args)):FnOk P w K mg base CX0 (k+1) f fd ps (Zb fr fD):=by
 refine F.ok S (λvs H Q E h=>?_) λcdv A outer s H vs Q E hr h=>?_
 ·obtain⟨A,pt,args,R,EX,_,_,q,h,_⟩:=h;rw[q.length];exact len _ _ _ h
 ·obtain⟨wd,hp,hw⟩:=hbody cdv A outer s H E hr;obtain⟨A',pt,args,R,EX,dm,hpt,q,h,k,_⟩:=h;exact⟨_,hp,⟨H,A',pt⟩,_,_,QjX dm hpt q,hw args R EX h,Qsi (Ex:=E) (EX:=EX) k QoM⟩
end
end Dl
namespace L2
def QxC(i j:Int):Prop:=0<j/\j<=10^40
theorem Qnl{X:Cx}:OpR X (binaryOp .FloorDiv) (rI QxC λi j=>.int (i / j)):=opI λi j _ _ _ _ _ hc q=>by
 have h1:(0:Int)<j:=hc.1;have h2:j<=10^40:=hc.2;refine floordiv_int (by omega) (by rw[Int.fdiv_eq_ediv_of_nonneg i (by omega)];exact q) (.inl (PyProof.noPylong_of_log2 ?_));have h3:j.natAbs<2^200:=by
  have:(10:Int)^40<2^200:=by decide
  omega
 have:=(Nat.log2_lt (by omega:j.natAbs≠0)).mpr h3;omega
end L2
namespace Rk
open L2 _root_.Rd
def QhT:Sp:=λvs H Q _=>∃p n f,vs=[.ref p,.int f]/\H p=some (.lst [.int n])/\0<f/\f<=10^40/\∀r m,0<=r->r<f->Q (.int r) (upd H p (.lst [.int m]))
end Rk
namespace Dl
open L2 _root_.Rd Rk
theorem JG{X:Cx}{E:XK}:Qcm CX0 X E:=λ_ _ _ _ _ _ _ h=>h.elim
theorem Room.u60{k:Nat}{A:Jb}(r:Room k A):A.units+60<cLine:=by have:=r.un;omega
theorem Room.i60{k:Nat}{A:Jb}(r:Room k A):A.in1.units+60<cLine:=by
 have:=r.un;show A.units+1+60<cLine;omega
section
variable{X:Cx}{E:XK}{CX:CXT}{k:Nat}{f:Addr}{fd:QN}{ps:List Str}{x:Str}{p pos:Pos}{e:QR}{es:List QR}{fD:DF}
def QjS:DF:=λargs R _=>∃f,args=[.pot,.v (.int f)]/\0<f/\f<=10^40/\∀r,0<=r->r<f->R (.int r)
theorem Qti{vs:List V}{H:Hp}{Q:VK}{Ex:XK}(h:Zb true QjS vs H Q Ex):QhT vs H Q Ex:=by
 obtain⟨A,pt,args,R,EX,dm,hp,q,⟨f,rfl,f0,f1,hR⟩,k,_⟩:=h;cases q with
 |cons q1 q2=>cases q2 with
  |cons q2 q3=>
   cases q3;obtain⟨p,rfl,pp⟩:=q1;cases q2;obtain⟨_,n,e⟩:=hp p pp;refine⟨p,n,f,rfl,e,f0,f1,λr m r0 r1=>k _ (hR r r0 r1) _ _ ⟨λb o nb eb=>?_,λz hz=>?_⟩ (.int _) λ_=>Yq⟩
   ·rw[JC (λz=>nb (by rw[z];exact pp))];exact eb
   ·by_cases y:z=p
    ·rw[y];exact⟨m,Jh⟩
    ·obtain⟨_,n',e'⟩:=hp z hz;exact⟨n',by rw[JC y];exact e'⟩
def QwH:DF:=λargs R _=>∃c,args=[.v (.int c)]/\∀n,R (.list [.int n])
theorem QwG{vs:List V}{H:Hp}{Q:VK}{Ex:XK}(h:Zb true QwH vs H Q Ex):Qtr vs H Q Ex:=by
 obtain⟨A,pt,args,R,EX,dm,hp,q,⟨c,rfl,hR⟩,k,_⟩:=h;cases q with
 |cons q1 q2=>
  cases q2;cases q1;refine⟨c,rfl,λp n hn=>k _ (hR n) _ _ ⟨λb o _ eb=>Jg hn b o eb,λz hz=>?_⟩ (.lst (λz=>?_) Jh (.cons (.int _) .nil)) λ_=>YI hn⟩
  ·obtain⟨_,n',e'⟩:=hp z hz;exact⟨n',Jg hn _ _ e'⟩
  ·obtain⟨xs,e⟩:=dm p z;rw[hn] at e;cases e
def isW:Qb->Bool
 |.int _=>true
 |_=>false
def QjK:DF:=λargs R _=>∃d,args=[.v d]/\R (.bool (isW d))
theorem Qj3{K:PySem.W.Frag}{F:Fm}{σ:L2.St}{H:Hp}{δ:Sts}(r:Rel K F σ H δ){a:Addr}{xs:List V}(h:SqL K F.H0 a xs)(n:¬F.pt a):SqL K H a xs:=by
 rcases h with h | h
 ·rcases h with h | ⟨o,h⟩
  ·exact .inl (.inl (r.kx _ _ n h))
  ·exact .inl (.inr ⟨o,r.kx _ _ n h⟩)
 ·exact .inr h
def Qsp(i:Nat):DE:=λδ Q _=>match δ[i]? with
 |some .scr=>∀n:Nat,n<=63->Q (.int n)
 |_=>False
theorem Qrx{i:Nat}{a:QR}(hg:Gl X "len")(hm:X.mg "len" = none)(h:PE X a (Qde i))(hs:notStar a=true:=by rfl):PE X (.Call (.Name "len" p) [a] [] pos) (tX .F X.K E (Qsp i)):=by
 refine PE.imp (Z4 YE hg hm YF (Qcc h JA hs) (he:=by rw[J5 hs])) λσ H Q ⟨F,δ,R,EX,rel,hw,k,o⟩=>?_
 unfold Qsp at hw;split at hw
 ·rename_i hd
  obtain⟨x,hx⟩:=rel.lt hd;obtain⟨l,ns,rfl,sq,np,n63⟩:=rel.sl i _ _ hx hd;refine⟨_,hx,l,_,rfl,.inl (Qj3 rel sq np),?_⟩;rw[Qe];exact k _ (hw _ n63) _ H rel (Kp.refl rel) ⟨.int _,Yq⟩
 ·exact hw.elim
def Qsq(i:Nat)(wb:DE):DE:=λδ Q EX=>match δ[i]? with
 |some .scr=>wb δ (λd=>match d with
  |.int k=>0<=k/\∀c,Q (.int c)
  |_=>False) EX
 |_=>False
theorem QrA{i:Nat}{a b:QR}{wb:DE}(G:FnOk X.prog X.w X.K X.mg X.base CX0 k f fd ps (Qb5 X.K))(hr:Room k X.A)(hg:Gl X x)(hm:X.mg x=some (.ref f))(hk:PySem.W.keepIn X.K (.ref f)=true)(hb:Binds X.K fd ps [])
  (ha:PE X a (Qde i))(h:PE X b (tX .P X.K E wb))(h1:notStar a=true:=by rfl)(h2:notStar b=true:=by rfl)(hdb:(x == ("__debug__" : Str))=false:=by decide) :
  PE X (.Call (.Name x p) [a,b] [] pos) (tX .F X.K E (Qsq i wb)):=by
 refine PE.imp (QcH (E:=E) G hr hg hm hk hb .nil JG (Qcc ha (Qcc h JA h2) h1) hdb (J5 h1) (by rw[J5 h2];rfl)) λσ H Q ⟨F,δ,R,EX,rel,hw,k,o⟩=>?_
 unfold Qsq at hw;split at hw
 ·rename_i hd
  obtain⟨x,hx⟩:=rel.lt hd;obtain⟨l,ns,rfl,sq,np,n63⟩:=rel.sl i _ _ hx hd;refine⟨_,hx,F,δ,_,EX,rel,hw,λd hd2 v H' rel' kp vk=>?_,o⟩;cases d<;>first | exact(show False from hd2).elim | skip
  rw[DP.int vk];exact⟨l,ns,_,rfl,Qj3 rel' sq np,Yy n63 (by decide),hd2.1,λc=>k _ (hd2.2 c) _ H' rel' kp ⟨.int _,Yq⟩⟩
 ·exact hw.elim
end
section
variable{P:Qz}{w:Jf}{K:PySem.W.Frag}{mg:Str->Option Value}{base:JR}
def Qd9(K:PySem.W.Frag):Sp:=λvs H Q _=>∃(a:Addr)(ns:List Int),vs=[.ref a]/\SqL K H a (ns.map V.int)/\ns.length<=63/\∀H',Q (.bl true) H'
def QuS:QdN:=⟨λ_=>False,λd=>d=.bool true,λd=>d=.bool true,λ_=>False,λ_=>False,XF⟩
theorem QwY{x qual:Str}{st:ZG}{f:Addr}{fd:QN}{N:List Str}{p:Str}{k:Nat}(F:Fun K x qual st f fd)(S:Jq N [p] (Qt st))
  (hbody:∀(cdv:Value)(A:Jb)(outer:List Env)(s:Shared)(H:Hp)(E:XK),Room k (A.deeper (envOfC qual (Qt st) s.heap.objs.size f cdv)) ->
   ∃wd,PSs (QlA CX0 P w K mg base N qual (Qt st) f cdv A outer s H E).nox (Jj st) (tS K E0 wd)/\wd QuS (stD N [.scr])):FnOk P w K mg base CX0 (k+1) f fd [p] (Qd9 K):=by
 refine F.ok S (λvs H Q E h=>?_) λcdv A outer s H vs Q E hr h=>?_
 ·obtain⟨a,ns,rfl,_⟩:=h;rfl
 ·obtain⟨wd,hp,hw⟩:=hbody cdv A outer s H E hr;obtain⟨a,ns,rfl,sq,n63,k⟩:=h;have get0:∀(i:Nat) o y,(L2.start N [V.ref a])[i]? = some o->(stD N [.scr])[i]? = some y->y≠.no->o=some (.ref a)/\y=.scr:=λi o y h1 h2 hy=>by
   cases i with
   |zero=>cases h1;cases h2;exact⟨rfl,rfl⟩
   |succ i=>
    unfold stD at h2;rw[QaE (by simp),ZB] at h2;split at h2
    ·exact absurd (Qy h2).symm hy
    ·cases h2
  have noav:∀b,¬Av (⟨H,λ_=>False,λ_=>False⟩:Fm) (L2.start N [V.ref a]) (stD N [.scr]) b:=λb z=>by
   rcases z with z | ⟨i,h1,h2⟩
   ·exact z
   ·rcases h2 with h2 | ⟨ds,h2⟩
    ·cases(get0 i _ _ h1 h2 (λz=>by cases z)).2
    ·cases(get0 i _ _ h1 h2 (λz=>by cases z)).2
  refine⟨_,hp,⟨H,λ_=>False,λ_=>False⟩,_,_,?_,hw,?_⟩
  ·exact{
    len:=by unfold L2.start stD;simp
    dom:=λ_ h=>h.elim
    dom0:=λ_ h=>h.elim
    pt0:=λ_ h=>h.elim
    kx:=λ_ _ _ e=>e
    sl:=λi o y h1 h2=>by
     cases y with
     |no=>trivial
     |scr=>
      obtain⟨rfl,_⟩:=get0 i _ _ h1 h2 (λz=>by cases z);exact⟨a,ns,rfl,sq,λz=>z,n63⟩
     |v d=>cases(get0 i _ _ h1 h2 (λz=>by cases z)).2
     |own d=>cases(get0 i _ _ h1 h2 (λz=>by cases z)).2
     |pk d=>cases(get0 i _ _ h1 h2 (λz=>by cases z)).2
     |pot=>cases(get0 i _ _ h1 h2 (λz=>by cases z)).2
    inj:=λi j b ds h1 h2 _=>by cases(get0 i _ _ h2 h1 (λz=>by cases z)).2 }
  ·exact{
    nx:=⟨λ_ h=>h.elim⟩
    rt:=λd h v H' ke dv=>by cases(show d=.bool true from h);cases dv;exact k H'
    rtF:=λd h v H' ke dv _=>by cases(show d=.bool true from h);cases dv;exact k H'
    bk:=⟨λ_ h=>h.elim⟩
    ct:=⟨λ_ h=>h.elim⟩
    ex:=QoM }
end
theorem Qvm{α:Type}{p:α->Prop}:∀x∈([]:List α),p x:=λ_ h=>nomatch h
theorem Qau{α:Type}{p:α->Prop}{a:α}{l:List α}(h:p a)(t:∀x∈l,p x):∀x∈a::l,p x:=λx hx=>by
 rcases Qq.mp hx with z | z
 ·rw[z];exact h
 ·exact t x z
theorem Qvk{b c:Bool}{R:Qb->Prop}(h:R (.bool (b&&c))):if b=true then R (.bool c) else R (.bool false):=by
 cases b
 ·exact Ql6 h
 ·exact Qgk h
theorem QlV{b c:Bool}{R:Qb->Prop}{Pk:Prop}(h:R (.bool (b&&c)))(k:b=true->R (.bool c)->Pk):if b=true then Pk else R (.bool false):=by
 cases b
 ·exact Ql6 h
 ·exact Qgk (k rfl h)
theorem ifF{c:Bool}{A B:Prop}(h:c=false)(k:B):if c=true then A else B:=by subst h;exact k
theorem ifT{c:Bool}{A B:Prop}(h:c=true)(k:A):if c=true then A else B:=by subst h;exact k
theorem ifC{c:Bool}{A B:Prop}(t:c=true->A)(f:c=false->B):if c=true then A else B:=by
 cases c
 ·exact f rfl
 ·exact t rfl
theorem all_map{α:Type}(l:List α)(g:α->Bool):(l.map g).all id=l.all g:=by
 rw[QdY];rfl
theorem QdL{ds:List Qb}{Q:Qb->Prop}{g:Qb->Bool}{items:List Qb}(h:ds=[.list (items.map λd=>.bool (g d))])(q:Q (.bool (items.all g))):QvM ds Q:=by
 subst h;unfold QvM;refine⟨items.map g,?_,by rw[all_map];exact q⟩;rw[show items.map (λd=>Qa8 (g d))=(items.map g).map Qa8 by rw[Jo];rfl,QlP]
end Dl
namespace L2
section
variable{X:Cx}
end
end L2
namespace Dl
open L2 _root_.Rd Rk
section
variable{X:Cx}{E:XK}
def Qww(d:Qb)(Q:Qb->Prop):Prop:=
 match d with
 |.list ds=>Q (.list ds.reverse)
 |_=>False
def QyG(we ws:DE):DE:=λδ Q EX=>we δ (λd=>ws δ (λs=>(match s with | .int i=>i = -1 | _=>False)/\Qww d Q) EX) EX
def Qu7(w:DE):DE:=λδ Q EX=>w δ (λd=>match d with
 |.int j=>(-1000<=j/\j<=1000)/\Q (.list ((Qg j.toNat).map λ(i:Nat)=>.int i))
 |_=>False) EX
theorem Qsm{A:Addr->Prop}{H:Hp}(l:List Nat):DAs A H (l.map λ(i:Nat)=>V.int (i:Nat)) (l.map λ(i:Nat)=>Qs (i:Nat)):=by
 induction l with
 |nil=>exact .nil
 |cons i l ih=>exact .cons (.int _) ih
variable{e:QR}{w:DE}{p p2 pos pos2:Pos}
theorem QkF(hg:Gl X "list")(hm:X.mg "list" = none)(hg2:Gl X "range")(hm2:X.mg "range" = none)(h:PE X e (tX .P X.K E w))(hc:X.calm=true:=by rfl)(hs:notStar e=true:=by rfl):PE X (.Call (.Name "list" p) [.Call (.Name "range" p2) [e] [] pos2] [] pos) (tX .F X.K E (Qu7 w)):=by
 refine PE.imp (Qdo (QhA hc) hg hm QlM (Qcc (Qh7 hg2 hm2 (Qcc h JA hs) (by rw[J5 hs];rfl)) JA)) λσ H Q ⟨F,δ,R,EX,rel,hw,k,o⟩=>?_
 refine⟨F,δ,_,EX,rel,hw,λd hd v H1 rel1 kp1 vk=>?_,o⟩;cases d<;>first | exact(show False from hd).elim | skip
 obtain⟨⟨h1,h2⟩,hR⟩:=hd;rw[DP.int vk];refine⟨_,rfl,λr H2 s2 n2 e2=>⟨r,_,rfl,e2,h1,h2,λt H3 s3 n3 e3=>?_⟩⟩;have r2:=rel1.same s2;have K2:=kp1.trans (Kp.same rel1 s2);exact k _ hR _ H3 (r2.same s3) (K2.trans (Kp.same r2 s3)) ⟨Qce (λa ha=>r2.isl ha) s3 n3 e3 (Qsm _),YI (QbQ K2 n3)⟩
end
theorem Qvj{ds:List Qb}{i:Int}(h0:0<=i)(h1:i<ds.length):∃d,d∈ds/\atI ds i=some d:=by
 obtain⟨j,rfl⟩:∃j:Nat,i=j:=⟨i.toNat,by omega⟩
 have hj:j<ds.length:=by omega
 exact⟨ds[j],ZJ hj,Zd (Qf hj)⟩
theorem Qw9{ds:List Qb}{i:Int}{Q:Qb->Prop}(h0:0<=i)(h1:i<ds.length)(q:∀d∈ds,Q d):∃d,atI ds i=some d/\Q d:=by
 obtain⟨d,hd,e⟩:=Qvj h0 h1;exact⟨d,e,q d hd⟩
theorem QnV{xs:List Qb}{lo hi:Option Int}{d:Qb}(h:d∈cutD xs lo hi):d∈xs:=List.mem_of_mem_drop (List.mem_of_mem_take h)
structure QE (m:Md) (X:Cx) (E:XK) (e:QR) (w:DE):Prop where h:PE X e (tX m X.K E w)
structure QT (X:Cx) (E:XK) (e:QR) (w:DT):Prop where h:PT X e (tT X.K E w)
structure QW (X:Cx) (E:XK) (e:QR) (w:DT):Prop where h:PW X e (tT X.K E w)
structure QTs (X:Cx) (E:XK) (es:List QR) (w:DT):Prop where h:PTs X es (tT X.K E w)
structure QA (n:Nat) (m:Md) (X:Cx) (E:XK) (es:List QR) (w:DAr):Prop where h:PA X es (tAr n m X.K E w)
structure QAs (X:Cx) (E:XK) (es:List QR) (w:DSl):Prop where h:PA X es (tAs X.K E w)
structure QO (X:Cx) (E:XK) (o:Option QR) (w:DO):Prop where h:PO X o (tO X.K E w)
structure QG (ix:List Nat) (X:Cx) (tg:QR) (w:DG):Prop where h:PG X tg (tG ix X.K w)
structure QI (m:Md) (X:Cx) (E:XK) (tg it:QR) (w:DI):Prop where h:PI X tg it (tI m X.K E w)
structure QS (X:Cx) (E:XK) (st:ZG) (w:DS):Prop where h:PS X st (tS X.K E w)
structure QSs (X:Cx) (E:XK) (sts:List ZG) (w:DS):Prop where h:PSs X sts (tS X.K E w)
section
variable{X:Cx}{E:XK}
theorem Zn{e:QR}{w:DE}(h:QE .F X E e w):QE .D X E e w:=⟨toD h.h⟩
theorem Jn{e:QR}{w:DE}(h:QE .D X E e w):QE .P X E e w:=⟨toP h.h⟩
theorem Q7{e:QR}{w:DE}(h:QE .F X E e w):QE .P X E e w:=⟨Qyh h.h⟩
theorem qv(i:Nat){x:Str}{pos:Pos}(hN:X.N[i]? = some x:=by rfl)(hv:Vis X.env.scope x:=by first | exact Q1 rfl | exact QY (Q1 rfl) | exact QY (QY rfl))(hd:(x == ("__debug__" : Str))=false:=by decide)(hcd:(x == ("__classdict__" : Str))=false:=by decide):QE .D X E (.Name x pos) (Qxp i):=⟨Qt1 (pv i hN hv hd hcd)⟩
theorem qp(i:Nat){x:Str}{pos:Pos}(hN:X.N[i]? = some x:=by rfl)(hv:Vis X.env.scope x:=by first | exact Q1 rfl | exact QY (Q1 rfl) | exact QY (QY rfl))(hd:(x == ("__debug__" : Str))=false:=by decide)(hcd:(x == ("__classdict__" : Str))=false:=by decide):QE .P X E (.Name x pos) (dPk i):=⟨QwM (pv i hN hv hd hcd)⟩
theorem JO{i:Int}{j pos}:QE .D X E (.Constant (.int i) j pos) (dC (.int i)):=⟨Qt7⟩
theorem QfB{b:Bool}{j pos}:QE .D X E (.Constant (.bool b) j pos) (dC (.bool b)):=⟨QwQ⟩
theorem QoD{x:Str}(i:Int){u:Value}{pos:Pos}(hg:Gl X x)(hm:X.mg x=some u)(r:RelV (.int i) u)(hd:(x == ("__debug__" : Str))=false:=by decide):QE .D X E (.Name x pos) (dC (.int i)):=⟨QwP (Qat hg hm r hd) λ_ _=>.int i⟩
theorem Qad{a b:QR}{wa wb:DE}{pos:Pos}{r:R2}{rD:Qb->Qb->(Qb->Prop)->Prop}{op:QeE}(ho:OpR X (binaryOp op) r)(hd:OpD r rD)(ha:QE .P X E a wa)(hb:QE .P X E b wb):QE .F X E (.BinOp a op b pos) (dOp rD wa wb):=⟨Qt9 ho hd ha.h hb.h⟩
theorem Qf5{a b:QR}{wa wb:DE}{pos:Pos}{r:R2}{rD:Qb->Qb->(Qb->Prop)->Prop}{op:Qpw}(ho:OpR X (compareOp op) r)(hd:OpD r rD)(ha:QE .P X E a wa)(hb:QE .P X E b wb)(hm:behindInMarks op b=false):QE .F X E (.Compare a [op] [b] pos) (dOp rD wa wb):=⟨Qt8 ho hd ha.h hb.h hm⟩
theorem ZR{a b:QR}{wa wb:DE}{pos:Pos}{r:R2}{rD:Qb->Qb->(Qb->Prop)->Prop}{op:Qpw}(ho:OpR X (compareOp op) r)(hd:OpD r rD)(ha:QE .P X E a wa)(hb:QE .P X E b wb)(hm:behindInMarks op b=false):QT X E (.Compare a [op] [b] pos) (dTst (dOp rD wa wb)):=⟨Qrk ho hd ha.h hb.h hm⟩
theorem QdU{a b:QR}{wa wb:DE}{pos:Pos}{r:R2}{rD:Qb->Qb->(Qb->Prop)->Prop}(ho:IxR X r)(hd:QsI r rD)(ha:QE .P X E a wa)(hb:QE .P X E b wb)(hs:QhG b):QE .D X E (.Subscript a b pos) (dOp rD wa wb):=⟨QwN ho hd ha.h hb.h hs⟩
theorem QwF{a:QR}{wa:DE}{pos:Pos}(ha:QE .P X E a wa):QE .F X E (.UnaryOp .USub a pos) (dUn QxS wa):=⟨Qt5 ha.h⟩
theorem Qys{a b c:QR}{wa wb wc:DE}{pos:Pos}{op op':Qpw}{p q:Int->Int->Bool}(ho:OpR X (compareOp op) (rI0 λi j=>.bl (p i j)))(ho':OpR X (compareOp op') (rI0 λi j=>.bl (q i j)))(ha:QE .P X E a wa)(hb:QE .P X E b wb)(hc:QE .P X E c wc)(hm:lastMarks [op,op'] [b,c]=false:=by with_unfolding_all rfl):QE .F X E (.Compare a [op,op'] [b,c] pos) (dCh p q wa wb wc):=⟨QwO ho ho' ha.h hb.h hc.h hm⟩
theorem Qh1{e:QR}{w:DE}(h:QE .P X E e w)(he:∀whole,isTrue e X.env whole=(do let v <- whole;standAt e.pos;holding [v] (truthy v)):=by intro _;rfl):QT X E e (dTru w):=⟨Qri h.h he⟩
theorem YB{e:QR}{w:DE}(h:QE .P X E e w)(he:∀whole,isTrue e X.env whole=(do let v <- whole;standAt e.pos;holding [v] (truthy v)):=by intro _;rfl):QT X E e (dTst w):=⟨Qrh h.h he⟩
theorem Qg3{a b:QR}{rest:List QR}{pos:Pos}{wa wb:DE}(ha:QE .P X E a wa)(hb:QE .D X E (.BoolOp .And (b::rest) pos) wb):QE .D X E (.BoolOp .And (a::b::rest) pos) (Qu9 wa wb):=⟨Qua ha.h hb.h⟩
theorem QaX{a:QR}{pos:Pos}{ta:DT}(ha:QT X E a ta):QW X E (.BoolOp .Or [a] pos) ta:=⟨Qrg ha.h⟩
theorem QbN{a b:QR}{rest:List QR}{pos:Pos}{ta tb:DT}(ha:QT X E a ta)(hb:QW X E (.BoolOp .Or (b::rest) pos) tb):QW X E (.BoolOp .Or (a::b::rest) pos) (dOr ta tb):=⟨QtZ ha.h hb.h⟩
theorem Qjw{e:QR}{t:DT}(h:QW X E e t):QT X E e t:=⟨PW.pt h.h⟩
theorem Ya{a:QR}{pos:Pos}{ta:DT}(ha:QT X E a ta):QT X E (.UnaryOp .Not a pos) (Qx3 ta):=⟨Qrj ha.h⟩
theorem Qg2{op}{a:QR}{pos:Pos}{w:DE}(h:QE .D X E a w):QE .D X E (.BoolOp op [a] pos) w:=⟨Qt3 h.h⟩
theorem QwE{a:QR}{pos:Pos}{wa:DE}(ha:QE .P X E a wa):QE .D X E (.UnaryOp .Not a pos) (Qu6 wa):=⟨Qt4 ha.h⟩
theorem Jw{m:Md}:QA 0 m X E [] Qx4:=⟨Qrw⟩
theorem Qak{n:Nat}{e:QR}{es:List QR}{we:DE}{wr:DAr}(he:QE .D X E e we)(hr:QA n .D X E es wr)(hs:notStar e=true:=by rfl):QA (n+1) .D X E (e::es) (Qly we wr):=⟨QkE he.h hr.h hs⟩
theorem QbO{n:Nat}{e:QR}{es:List QR}{we:DE}{wr:DAr}(he:QE .P X E e we)(hr:QA n .P X E es wr)(hs:notStar e=true:=by rfl):QA (n+1) .P X E (e::es) (Qly we wr):=⟨QkD he.h hr.h hs⟩
theorem QcE{n:Nat}{es:List QR}{w:DAr}{x1}{pos:Pos}(h:QA n .D X E es w)(hn:n<=1000:=by decide):QE .F X E (.Tuple es x1 pos) (QxZ w):=⟨Qt2 h.h hn⟩
theorem Qf4{n:Nat}{es:List QR}{w:DAr}{pos:Pos}(h:QA n .D X E es w)(hn:n<=1000:=by decide):QE .F X E (.List es pos) (Qx5 w):=⟨Qt6 h.h hn⟩
theorem Zr{x:Str}{bid:String}{p pos:Pos}{e:QR}{es:List QR}{n:Nat}{wr:DAr}{r:List V->Hp->VK->Prop}{rD:List Qb->(Qb->Prop)->Prop}(hc:CallR X (.builtin bid) r)(hd:QbU r rD)(hg:Gl X x)(hm:X.mg x=none)(hv:bootBuiltins x=some (.builtin bid))(ha:QA n .P X E (e::es) wr)(hn:x ≠ "__name__" := by decide)(hdb:(x == ("__debug__" : Str))=false:=by decide)(he:starEach (e::es) X.env=(false,eval e X.env)::starEach es X.env:=by rfl)(hpl:(backTo pos (starEach es X.env)).any (·.1)=false:=by rfl):QE .F X E (.Call (.Name x p) (e::es) [] pos) (dCB rD wr):=⟨Qng hc hd hg hm hv ha.h hn hdb he hpl⟩
theorem YS{x:Str}{T:String}{p pos:Pos}{e:QR}{es:List QR}{n:Nat}{wr:DAr}{r:List V->Hp->VK->Prop}{rD:List Qb->(Qb->Prop)->Prop}(hc:CallR X (.type T) r)(hd:QbU r rD)(hg:Gl X x)(hm:X.mg x=none)(hv:bootBuiltins x=some (.type T))(ha:QA n .P X E (e::es) wr)(hn:x ≠ "__name__" := by decide)(hdb:(x == ("__debug__" : Str))=false:=by decide)(he:starEach (e::es) X.env=(false,eval e X.env)::starEach es X.env:=by rfl)(hpl:(backTo pos (starEach es X.env)).any (·.1)=false:=by rfl):QE .F X E (.Call (.Name x p) (e::es) [] pos) (dCB rD wr):=⟨QkG hc hd hg hm hv ha.h hn hdb he hpl⟩
theorem QcV{e:QR}{we:DE}{p pos pos2:Pos}{x:Str}(tn:Tn)(hg:Gl X "isinstance")(hm:X.mg "isinstance" = none)(he:QE .P X E e we)(hg2:Gl X x)(hm2:X.mg x=none)(hv:bootBuiltins x=some (.type tn.s))(hn:x ≠ "__name__" := by decide)(hd:(x == ("__debug__" : Str))=false:=by decide)(h1:notStar e=true:=by rfl):QE .F X E (.Call (.Name "isinstance" p) [e,.Name x pos2] [] pos) (Qu8 tn we):=⟨Qry tn hg hm he.h (QwR tn hg2 hm2 hv hn hd) h1 rfl⟩
theorem Qe0  : QO X E none dNo:=⟨Qm7⟩
theorem QeZ{e:QR}{we:DE}(he:QE .P X E e we):QO X E (some e) (dSo we):=⟨Qm6 he.h⟩
theorem Qe2{e:QR}{lo hi:Option QR}{we:DE}{wl wh:DO}{p2 pos:Pos}(he:QE .P X E e we)(hl:QO X E lo wl)(hh:QO X E hi wh):QE .F X E (.Subscript e (.Slice lo hi none p2) pos) (dSl we wl wh):=⟨Qne he.h hl.h hh.h⟩
theorem Qh4{e:QR}{w:DE}{p p2 pos pos2:Pos}(hg:Gl X "list")(hm:X.mg "list" = none)(hg2:Gl X "range")(hm2:X.mg "range" = none)(h:QE .P X E e w)(hc:X.calm=true:=by rfl)(hs:notStar e=true:=by rfl):QE .F X E (.Call (.Name "list" p) [.Call (.Name "range" p2) [e] [] pos2] [] pos) (Qu7 w):=⟨QkF hg hm hg2 hm2 h.h hc hs⟩
theorem Q6  : QAs X E [] QxH:=⟨Qrp⟩
theorem JW{e:QR}{es:List QR}{we:DE}{wr:DSl}(he:QE .D X E e we)(hr:QAs X E es wr)(hs:notStar e=true:=by rfl):QAs X E (e::es) (sV we wr):=⟨QwL he.h hr.h hs⟩
theorem QaY(i:Nat){x:Str}{pos:Pos}{es:List QR}{wr:DSl}(hr:QAs X E es wr)(hN:X.N[i]? = some x:=by rfl)(hv:Vis X.env.scope x:=by first | exact Q1 rfl | exact QY (Q1 rfl) | exact QY (QY rfl))(hd:(x == ("__debug__" : Str))=false:=by decide)(hcd:(x == ("__classdict__" : Str))=false:=by decide):QAs X E (.Name x pos::es) (Qwv i wr):=⟨Qrm (pv i hN hv hd hcd) hr.h rfl⟩
theorem Jp{CX:CXT}{k:Nat}{f:Addr}{fd:QN}{ps:List Str}{x:Str}{p pos:Pos}{e:QR}{es:List QR}{fD:DF}{wa:DSl}(G:FnOk X.prog X.w X.K X.mg X.base CX k f fd ps (Zb false fD))(hr:Room k X.A)(hg:Gl X x)(hm:X.mg x=some (.ref f))(hk:PySem.W.keepIn X.K (.ref f)=true)(hb:Binds X.K fd ps [])(hx:Qcm CX X E)(ha:QAs X E (e::es) wa)(hdb:(x == ("__debug__" : Str))=false:=by decide)(he:starEach (e::es) X.env=(false,eval e X.env)::starEach es X.env:=by rfl)(hpl:(backTo pos (starEach es X.env)).any (·.1)=false:=by rfl):QE .D X E (.Call (.Name x p) (e::es) [] pos) (Qlz fD wa):=⟨QrB G hr hg hm hk hb hx ha.h hdb he hpl⟩
theorem Z7{CX:CXT}{k:Nat}{f:Addr}{fd:QN}{ps:List Str}{x:Str}{p pos:Pos}{e:QR}{es:List QR}{fD:DF}{wa:DSl}(G:FnOk X.prog X.w X.K X.mg X.base CX k f fd ps (Zb true fD))(hr:Room k X.A)(hg:Gl X x)(hm:X.mg x=some (.ref f))(hk:PySem.W.keepIn X.K (.ref f)=true)(hb:Binds X.K fd ps [])(hx:Qcm CX X E)(ha:QAs X E (e::es) wa)(hdb:(x == ("__debug__" : Str))=false:=by decide)(he:starEach (e::es) X.env=(false,eval e X.env)::starEach es X.env:=by rfl)(hpl:(backTo pos (starEach es X.env)).any (·.1)=false:=by rfl):QE .F X E (.Call (.Name x p) (e::es) [] pos) (Qlz fD wa):=⟨Qnf G hr hg hm hk hb hx ha.h hdb he hpl⟩
theorem QtQ{k:Nat}{f:Addr}{fd:QN}{ps:List Str}{x y:Str}{p pos pos2:Pos}{b:QR}{wb:DE}(i:Nat)(G:FnOk X.prog X.w X.K X.mg X.base CX0 k f fd ps (Qb5 X.K))(hr:Room k X.A)(hg:Gl X x)(hm:X.mg x=some (.ref f))(hk:PySem.W.keepIn X.K (.ref f)=true)(hb:Binds X.K fd ps [])(h:QE .P X E b wb)(hN:X.N[i]? = some y:=by rfl)(hv:Vis X.env.scope y:=by first | exact Q1 rfl | exact QY (Q1 rfl) | exact QY (QY rfl))(hd:(y == ("__debug__" : Str))=false:=by decide)(hcd:(y == ("__classdict__" : Str))=false:=by decide)(h2:notStar b=true:=by rfl)(hdb:(x == ("__debug__" : Str))=false:=by decide):QE .F X E (.Call (.Name x p) [.Name y pos2,b] [] pos) (Qsq i wb):=⟨QrA G hr hg hm hk hb (pv i hN hv hd hcd) h.h rfl h2 hdb⟩
theorem QtP{y:Str}{p pos pos2:Pos}(i:Nat)(hg:Gl X "len")(hm:X.mg "len" = none)(hN:X.N[i]? = some y:=by rfl)(hv:Vis X.env.scope y:=by first | exact Q1 rfl | exact QY (Q1 rfl) | exact QY (QY rfl))(hd:(y == ("__debug__" : Str))=false:=by decide)(hcd:(y == ("__classdict__" : Str))=false:=by decide):QE .F X E (.Call (.Name "len" p) [.Name y pos2] [] pos) (Qsp i):=⟨Qrx hg hm (pv i hN hv hd hcd) rfl⟩
theorem ZT(i:Nat){x:Str}{pos:Pos}(hN:X.N.Nodup)(hi:X.N[i]? = some x)(hx:Loc X.env.scope x)(hf:X.fn x=true∨X.env.scope.names.lookup x=some .local:=by first | exact .inl rfl | exact .inr rfl | assumption):QG [i] X (.Name x pos) (gN i):=⟨Qnd (Y3 hN hi hx hf)⟩
structure QGs (X:Cx) (es:List QR) (is:List Nat):Prop where h:PGs X es (gNs is)
theorem Qbk  : QGs X [] []:=⟨Qg6⟩
theorem JV(i:Nat){is:List Nat}{x:Str}{pos:Pos}{es:List QR}(h:QGs X es is)(hN:X.N.Nodup)(hi:X.N[i]? = some x)(hx:Loc X.env.scope x)(hf:X.fn x=true∨X.env.scope.names.lookup x=some .local:=by first | exact .inl rfl | exact .inr rfl | assumption)(hs:(assignEach (.Name x pos::es) X.env).map (·.2)=assign (.Name x pos) X.env::(assignEach es X.env).map (·.2):=by rfl):QGs X (.Name x pos::es) (i::is):=⟨Qca (Y3 hN hi hx hf) h.h hs⟩
theorem Qbj{es:List QR}{k:Nat}{pos:Pos}{is:List Nat}(hc:X.calm=true)(h:QGs X es is)(hn:(assignEach es X.env).length=is.length:=by rfl)(hst:(assignEach es X.env).findIdx? (·.1)=none:=by rfl):QG is X (.Tuple es k pos) (gTN is):=⟨Qrv (Qku hc h.h hn hst) rfl⟩
theorem Qp5{m:Md}{tg e:QR}{w:DE}(h:QE m X E e w):QI m X E tg e (Qx7 w):=⟨Qnc h.h⟩
theorem Qf3{m:Md}{tg e:QR}{w:DE}(h:QE m X E e w):QI m X E tg e (Qx6 w):=⟨Qru h.h⟩
theorem QaK{m:Md}{tg e:QR}{w:DE}{p pos:Pos}(hg:Gl X "range")(hm:X.mg "range" = none)(h:QE .P X E e w)(hs:notStar e=true:=by rfl):QI m X E tg (.Call (.Name "range" p) [e] [] pos) (Qu3 w):=⟨Qnb hg hm h.h hs⟩
theorem Qkl{m:Md}{tg e e':QR}{w w':DE}{p pos:Pos}(hg:Gl X "range")(hm:X.mg "range" = none)(h:QE .P X E e w)(h':QE .P X E e' w')(hs:notStar e=true:=by rfl)(hs':notStar e'=true:=by rfl):QI m X E tg (.Call (.Name "range" p) [e,e'] [] pos) (Qu2 w w'):=⟨Qna hg hm h.h h'.h hs hs'⟩
theorem Qe1{m:Md}{e:QR}{w:DE}{p pos tpos:Pos}{elts:List QR}{x1}(hg:Gl X "enumerate")(hm:X.mg "enumerate" = none)(h:QE m X E e w)(hs:notStar e=true:=by rfl):QI m X E (.Tuple elts x1 tpos) (.Call (.Name "enumerate" p) [e] [] pos) (Qx9 w):=⟨QkC hg hm h.h hs⟩
theorem Qp3{m:Md}{e e':QR}{w w':DE}{p pos tpos:Pos}{elts:List QR}{x1}(hg:Gl X "zip")(hm:X.mg "zip" = none)(h:QE m X E e w)(h':QE m X E e' w')(hs:notStar e=true:=by rfl)(hs':notStar e'=true:=by rfl):QI m X E (.Tuple elts x1 tpos) (.Call (.Name "zip" p) [e,e'] [] pos) (QxY w w'):=⟨Qm9 hg hm h.h h'.h hs hs'⟩
theorem Qh3{m:Md}{e:QR}{w:DE}{p pos tpos:Pos}{elts:List QR}{x1}(hg:Gl X "enumerate")(hm:X.mg "enumerate" = none)(h:QE m X E e w)(hs:notStar e=true:=by rfl):QI m X E (.Tuple elts x1 tpos) (.Call (.Name "enumerate" p) [e] [] pos) (Qx8 w):=⟨QkB hg hm h.h hs⟩
theorem Qp2{m:Md}{e e':QR}{w w':DE}{p pos tpos:Pos}{elts:List QR}{x1}(hg:Gl X "zip")(hm:X.mg "zip" = none)(h:QE m X E e w)(h':QE m X E e' w')(hs:notStar e=true:=by rfl)(hs':notStar e'=true:=by rfl):QI m X E (.Tuple elts x1 tpos) (.Call (.Name "zip" p) [e,e'] [] pos) (QxX w w'):=⟨Qm8 hg hm h.h h'.h hs hs'⟩
theorem Qar  : QTs X E [] QvL:=⟨QmX⟩
theorem QcD{c:QR}{t:DT}(h:QT X E c t):QTs X E [c] t:=⟨QmW h.h⟩
theorem QaZ(M:List Str)(cap:List (Option Nat)){elt tg iter:QR}{ifs:List QR}{scope:YW}{pos:Pos}{ix:List Nat}{wi:DI}{wg:DG}{wt:DT}{we:DE}(hi:QI .P X E tg iter wi)(hb:∀cl ex s3 H3 C,QG ix (blk X M scope cl ex s3 H3 C) tg wg/\QTs (blk X M scope cl ex s3 H3 C) E0 ifs wt/\QE .D (blk X M scope cl ex s3 H3 C) E0 elt we)(hc:X.calm=true:=by rfl)(ok:Qhy X.N X.env.scope M scope cap=true:=by rfl)(hf:QcO cap ix=true:=by rfl)(hs:∀x,foldedSetIterable iter X.env x=pure x:=by intro _;rfl):QE .F X E (.ListComp elt [⟨tg,iter,ifs,0⟩] scope pos) (dComp cap wi wg wt we):=⟨Qrz hc ok hf hi.h (λcl ex s3 H3 C=>⟨(hb cl ex s3 H3 C).1.h,(hb cl ex s3 H3 C).2.1.h,(hb cl ex s3 H3 C).2.2.h⟩) hs⟩
theorem Zj  : QSs X E [] QuZ:=⟨QmY⟩
theorem Jc{st:ZG}{w:DS}(h:QS X E st w):QSs X E [st] w:=⟨Qro h.h⟩
theorem QX{st:ZG}{rest:List ZG}{w w':DS}(h:QS X E st w)(h':QSs X E rest w'):QSs X E (st::rest) (Qx0 w w'):=⟨Qm4 h.h h'.h⟩
theorem Qb8{sts:List ZG}:QSs X E sts (λ_ _=>False):=⟨Qkz⟩
theorem Qaj(i:Nat){x:Str}{e:QR}{pos pos':Pos}{we:DE}(he:QE .D X E e we)(hN:X.N.Nodup)(hi:X.N[i]? = some x:=by rfl)(hx:Loc X.env.scope x:=by first | exact Q1 rfl | exact QY rfl)(hs:swapsWith e (some (.Name x pos')) pos.line X.env=pure false:=by rfl)(hf:X.fn x=true∨X.env.scope.names.lookup x=some .local:=by first | exact .inl rfl | exact .inr rfl | assumption):QS X E (.Assign [.Name x pos'] e pos) (Qxr i we):=⟨Qky (QbH hN hi hx he.h hs hf)⟩
theorem Qdk(i:Nat){x:Str}{e:QR}{pos pos':Pos}{we:DE}(he:QE .F X E e we)(hN:X.N.Nodup)(hi:X.N[i]? = some x:=by rfl)(hx:Loc X.env.scope x:=by first | exact Q1 rfl | exact QY rfl)(hs:swapsWith e (some (.Name x pos')) pos.line X.env=pure false:=by rfl)(hf:X.fn x=true∨X.env.scope.names.lookup x=some .local:=by first | exact .inl rfl | exact .inr rfl | assumption):QS X E (.Assign [.Name x pos'] e pos) (Qu1 i we):=⟨Qm0 (QbH hN hi hx he.h hs hf)⟩
theorem QpZ(i:Nat){x:Str}{e:QR}{pos pos':Pos}{we:DE}(he:QE .F X E e we)(hN:X.N.Nodup)(hi:X.N[i]? = some x:=by rfl)(hx:Loc X.env.scope x:=by first | exact Q1 rfl | exact QY rfl)(hs:swapsWith e (some (.Name x pos')) pos.line X.env=pure false:=by rfl)(hf:X.fn x=true∨X.env.scope.names.lookup x=some .local:=by first | exact .inl rfl | exact .inr rfl | assumption):QS X E (.Assign [.Name x pos'] e pos) (Qu0 i we):=⟨QmZ (QbH hN hi hx he.h hs hf)⟩
theorem Qf2{tg e:QR}{pos:Pos}{ix:List Nat}{we:DE}{wg:DG}(he:QE .D X E e we)(hg:QG ix X tg wg)(hs:swapsWithSole [tg] e pos.line X.env=pure false:=by rfl)(hw:swappedStores [tg] e X.env=pure none:=by rfl)(h1:(assignEach [tg] X.env).map (·.2)=[assign tg X.env]:=by rfl):QS X E (.Assign [tg] e pos) (Qya we wg):=⟨Qrs (QoG he.h hg.h hs hw h1)⟩
theorem QtL(i j:Nat){x y:Str}{a b:QR}{n:Nat}{wa:DAr}{pos px py pt:Pos}{kt k2 pt2}(ha:QA n .D X E [a,b] wa)(hN:X.N.Nodup)(hc:X.calm=true:=by rfl)(hi:X.N[i]? = some x:=by rfl)(hj:X.N[j]? = some y:=by rfl)(hij:i≠j:=by decide)(hx:X.env.scope.names.lookup x=some .local:=by rfl)(hy:X.env.scope.names.lookup y=some .local:=by rfl)(hw:swappedStores [.Tuple [.Name x px,.Name y py] kt pt] (.Tuple [a,b] k2 pt2) X.env=pure (some [x,y]):=by rfl)(hs:swapsWithSole [.Tuple [.Name x px,.Name y py] kt pt] (.Tuple [a,b] k2 pt2) pos.line X.env=pure false:=by rfl):QS X E (.Assign [.Tuple [.Name x px,.Name y py] kt pt] (.Tuple [a,b] k2 pt2) pos) (Qx2 i j wa):=⟨Qrn (QtR hc hN hi hj hij hx hy ha.h hw hs)⟩
theorem Zp{e:QR}{pos:Pos}{we:DE}(h:QE .D X E e we):QS X E (.Return (some e) pos) (Qx1 we):=⟨Qrl h.h⟩
theorem Y2{e:QR}{pos:Pos}{we:DE}(h:QE .F X E e we):QS X E (.Return (some e) pos) (Qu4 we):=⟨Qm2 h.h⟩
theorem Qkk(i:Nat){x:Str}{pos pos2:Pos}(hN:X.N[i]? = some x:=by rfl)(hv:Vis X.env.scope x:=by first | exact Q1 rfl | exact QY (Q1 rfl) | exact QY (QY rfl))(hd:(x == ("__debug__" : Str))=false:=by decide)(hcd:(x == ("__classdict__" : Str))=false:=by decide):QS X E (.Return (some (.Name x pos)) pos2) (Qso i):=⟨Qm1 (pv i hN hv hd hcd)⟩
theorem Qas{c:QR}{a b:List ZG}{pos:Pos}{t:DT}{w w':DS}(hc:QT X E c t)(ha:QSs X E a w)(hb:QSs X E b w'):QS X E (.If c a b pos) (dIf t w w'):=⟨Qt0 hc.h ha.h hb.h⟩
theorem QtN{y:Str}{e:QR}{we:DE}{apos cpos pos npos:Pos}(i:Nat)(he:QE .D X E e we)(hN:X.N[i]? = some y:=by rfl)(hv:Vis X.env.scope y:=by first | exact Q1 rfl | exact QY (Q1 rfl) | exact QY (QY rfl))(hd:(y == ("__debug__" : Str))=false:=by decide)(hcd:(y == ("__classdict__" : Str))=false:=by decide)(hst:notStar e=true:=by rfl)(hbase:attributeBase (.Name y npos) "append" X.env (eval (.Name y npos) X.env)=eval (.Name y npos) X.env:=by rfl)(hfew:((backTo cpos (starEach [e] X.env)).all (λx => !x.1)&&(backToKw cpos (keywordEach [] X.env)).all (λx=>x.1.isSome)&&decide ([e].length+([]:List Qac).length+(if([]:List Qac).isEmpty then 0 else 1)<30))=true:=by rfl)(hline:(apos.endLine == cpos.line)=true:=by rfl)(hsw:swapsWith (.Call (.Attribute (.Name y npos) "append" apos) [e] [] cpos) none pos.line X.env=pure false:=by rfl):QS X E (.Expr (.Call (.Attribute (.Name y npos) "append" apos) [e] [] cpos) pos) (Qxu i we):=⟨Qrt (Qg4 (Qg8 PySem.F.plainAttrs_list PySem.F.slot_list_append PySem.F.type_list_append Qdr (pv i hN hv hd hcd) (Qcc he.h JA hst) hbase hfew hline (J5 hst) rfl) hsw)⟩
theorem Qp1{y:Str}{e k:QR}{we wk:DE}{op:QeE}{ti:TIp}{rD:Qb->Qb->(Qb->Prop)->Prop}{pos tpos npos:Pos}(i:Nat)(ho:PIp X op ti)(hd:QsI ti rD)(hk:QE .P X E k wk)(he:QE .P X E e we)(hN:X.N[i]? = some y:=by rfl)(hv:Vis X.env.scope y:=by first | exact Q1 rfl | exact QY (Q1 rfl) | exact QY (QY rfl))(hdd:(y == ("__debug__" : Str))=false:=by decide)(hcd:(y == ("__classdict__" : Str))=false:=by decide)(ha:∀ov iv new,augStore k ov iv new=(do holding [new,ov,iv] (setItem ov iv new);release [new,ov,iv] [];pure .next):=by intros;rfl):QS X E (.AugAssign (.Subscript (.Name y npos) k tpos) op e pos) (Qsr i rD wk we):=⟨Qm5 hd (Qra (pv i hN hv hdd hcd) hk.h QnP he.h (PIp.len ho) QhU ha)⟩
theorem Qek{tg iter:QR}{body:List ZG}{pos:Pos}{ix:List Nat}{wi:DI}{wg:DG}{wb:DS}(hp:QeD (model X.prog X.w) X.A X.env X.xe)(hc:X.calm=true)(hi:QI .D X E tg iter wi)(hg:QG ix X tg wg)(hb:QSs X E body wb)(hs:∀x,foldedSetIterable iter X.env x=pure x:=by intro _;rfl):QS X E (.For tg iter body [] pos) (dFor wi wg wb):=⟨Qrr hp hc hi.h hg.h hb.h hs⟩
end
section
variable{P:Qz}{w:Jf}{K:PySem.W.Frag}{mg:Str->Option Value}{base:JR}
theorem okQ{x qual:Str}{st:ZG}{f:Addr}{fd:QN}{N ps:List Str}{k:Nat}{fD:DF}(fr:Bool)(F:Fun K x qual st f fd)(S:Jq N ps (Qt st))(len:∀args R EX,fD args R EX->args.length=ps.length)
  (hbody:∀(cdv:Value)(A:Jb)(outer:List Env)(s:Shared)(H:Hp)(E:XK),Room k (A.deeper (envOfC qual (Qt st) s.heap.objs.size f cdv)) ->
   ∃wd,QSs (QlA CX0 P w K mg base N qual (Qt st) f cdv A outer s H E).nox E0 (Jj st) wd/\∀args R EX,fD args R EX->wd (Qsj fr R XF) (stD N args)):FnOk P w K mg base CX0 (k+1) f fd ps (Zb fr fD):=
 okD fr F S len λcdv A outer s H E hr=>let ⟨wd,h,q⟩:=hbody cdv A outer s H E hr;⟨wd,h.h,q⟩
theorem Qyt{x qual:Str}{st:ZG}{f:Addr}{fd:QN}{N:List Str}{p:Str}{k:Nat}(F:Fun K x qual st f fd)(S:Jq N [p] (Qt st))
  (hbody:∀(cdv:Value)(A:Jb)(outer:List Env)(s:Shared)(H:Hp)(E:XK),Room k (A.deeper (envOfC qual (Qt st) s.heap.objs.size f cdv)) ->
   ∃wd,QSs (QlA CX0 P w K mg base N qual (Qt st) f cdv A outer s H E).nox E0 (Jj st) wd/\wd QuS (stD N [.scr])):FnOk P w K mg base CX0 (k+1) f fd [p] (Qd9 K):=
 QwY F S λcdv A outer s H E hr=>let ⟨wd,h,q⟩:=hbody cdv A outer s H E hr;⟨wd,h.h,q⟩
end
structure GOk (wg:DG):Prop where h:∀d δ Q,wg d δ Q->wg d δ λδ'=>(∀(j:Nat) x,δ'[j]? = some x->(∃e,x=.v e)∨δ[j]? = some x)/\Q δ'
theorem QnO(i:Nat):GOk (gN i):=⟨λd δ Q h=>⟨λj x e=>by
 by_cases z:j=i
 ·subst z;exact .inl ⟨d,set_eq e⟩
 ·rw[YA z] at e;exact .inr e,h⟩⟩
theorem QcU:∀(is:List Nat)(ds:List Qb)(δ:Sts)(j:Nat)(x:Sl),(Qdg δ is ds)[j]? = some x->(∃e,x=.v e)∨δ[j]? = some x
 |[],_,δ,j,x,h=>.inr (by simpa [Qdg] using h)
 |_::_,[],δ,j,x,h=>.inr (by simpa [Qdg] using h)
 |i::is,d::ds,δ,j,x,h=>by
  rcases QcU is ds _ j x h with z | z
  ·exact .inl z
  ·by_cases y:j=i
   ·subst y;exact .inl ⟨d,set_eq z⟩
   ·rw[YA y] at z;exact .inr z
theorem Qsg(is:List Nat):GOk (gTN is):=⟨λd δ Q h=>by
 unfold gTN at h ⊢;split at h
 ·exact⟨h.1,QcU is _ δ,h.2⟩
 ·exact h.elim⟩
theorem Qll{cap:List (Option Nat)}{ix:List Nat}(hf:QcO cap ix=true){i:Nat}(hi:i∈ix):cap[i]? = some none:=by
 have:=JL.mp hf i hi;split at this
 ·assumption
 ·cases this
theorem Qc8{cap:List (Option Nat)}{ix:List Nat}(hf:QcO cap ix=true){δ:Sts}{i:Nat}{x:Sl}(h:(Qda cap δ)[i]? = some x)(hx:x≠.no):i∉ix:=λz=>by
 rcases Qfk h with⟨_,e⟩ | ⟨j,hj,_⟩
 ·exact hx e
 ·rw[Qll hf z] at hj;cases hj
section
variable{K:PySem.W.Frag}{σ σ4:L2.St}{δ δ4:Sts}{cap:List (Option Nat)}{ix:List Nat}{A1:Addr->Prop}{H3 H5 H6:Hp}
theorem QoV(hP:∀a,ZO σ δ a->A1 a)(hf:QcO cap ix=true)(j4:∀j,j∉ix->σ4[j]? = (QcP cap σ)[j]?)(gk:∀(j:Nat) x,δ4[j]? = some x->(∃e,x=.v e)∨(Qda cap δ)[j]? = some x){a:Addr}(h:Av (inF A1 cap σ δ H3) σ4 δ4 a):A1 a:=by
 rcases h with z | ⟨i,h1,h2⟩
 ·exact z
 ·refine(Qif (cap:=cap) (H:=H3) hP).mp ?_
  rcases h2 with h2 | ⟨ds,h2⟩
  ·rcases gk i _ h2 with⟨e,z⟩ | z
   ·cases z
   ·exact .inr ⟨i,by rw[<- j4 i (Qc8 hf z (λz=>by cases z))];exact h1,.inl z⟩
  ·rcases gk i _ h2 with⟨e,z⟩ | z
   ·cases z
   ·exact .inr ⟨i,by rw[<- j4 i (Qc8 hf z (λz=>by cases z))];exact h1,.inr ⟨ds,z⟩⟩
theorem Qse(hP:∀a,ZO σ δ a->A1 a)(hf:QcO cap ix=true)(j4:∀j,j∉ix->σ4[j]? = (QcP cap σ)[j]?)(gk:∀(j:Nat) x,δ4[j]? = some x->(∃e,x=.v e)∨(Qda cap δ)[j]? = some x)
  (ri:Rel K (inF A1 cap σ δ H6) (QcP cap σ) H6 (Qda cap δ))(r5:Rel K (inF A1 cap σ δ H3) σ4 H5 δ4)(kk:∀a o,¬A1 a->H5 a=some o->H6 a=some o):Rel K (inF A1 cap σ δ H6) σ4 H6 δ4 where
 len:=r5.len
 dom:=ri.dom
 dom0:=ri.dom0
 pt0:=ri.pt0
 kx:=ri.kx
 sl:=λi o x h1 h2=>by
  have iv:∀{a:Addr},Av (inF A1 cap σ δ H6) σ4 δ4 a->A1 a:=λ{a} z=>QoV hP hf j4 gk z
  rcases gk i x h2 with⟨d,rfl⟩ | hx
  ·obtain⟨v,e,q⟩:=r5.sl i o _ h1 h2;exact⟨v,e,q.mv (λa o n e=>kk a o (λz=>n (.inl z)) e) λa z=>.inl (.inl (iv z))⟩
  ·by_cases hn:x=.no
   ·subst hn;trivial
   ·have h1':(QcP cap σ)[i]? = some o:=by rw[<- j4 i (Qc8 hf hx hn)];exact h1
    have h:=ri.sl i o x h1' hx;cases x with
    |no=>trivial
    |v d=>obtain⟨v',e,q'⟩:=h;exact⟨v',e,q'.mv (λ_ _ _ e=>e) λa z=>.inl (.inl (iv z))⟩
    |own ds=>obtain⟨l,xs,e,e2,q',f⟩:=h;exact⟨l,xs,e,e2,q'.mv (λ_ _ _ e=>e) λa z=>.inl (.inl (iv z)),f⟩
    |pk ds=>obtain⟨l,xs,e,e2,q',f⟩:=h;exact⟨l,xs,e,e2,q'.mv (λ_ _ _ e=>e) λa z=>.inl (.inl (iv z)),f⟩
    |pot=>exact h
    |scr=>exact h
 inj:=λi j a ds h1 h2 _=>by
  rcases gk i _ h1 with⟨e,z⟩ | z
  ·cases z
  ·rcases Qfk z with⟨_,e⟩ | ⟨j,hj,e⟩
   ·cases e
   ·exfalso
    cases e2:δ[j]? with
    |none=>rw[e2] at e;cases e
    |some y=>rw[e2] at e;cases y<;>cases e
end
theorem Qmr{K:PySem.W.Frag}{F:Fm}{σ:L2.St}{δ:Sts}{H1 H3:Hp}{cap:List (Option Nat)}{ix:List Nat}{wg:DG}{wt:DT}{A1:Addr->Prop}{x:V}{d:Qb}{inner:L2.St->Hp->(Hp->Prop)->Prop}{kk:Hp->Prop}{T:Sts->Prop}{N:Prop}(gok:GOk wg)
  (hf:QcO cap ix=true)(rel:Rel K F σ H1 δ)(hA:∀a,Av F σ δ a->A1 a)(hN:∀a,A1 a->Av F σ δ a∨H1 a=none)(dm:∀a,A1 a->∃xs,H3 a=some (.lst xs))(kp:Kp σ δ H1 H3)(dx:DA A1 H3 x d)
  (h:wg d (Qda cap δ) λδ4=>wt δ4 (λb=>if b=true then T δ4 else N) XF)
  (hT:∀σ4 δ4 H5,T δ4->Rel K (inF A1 cap σ δ H3) σ4 H5 δ4->Kp σ δ H3 H5->(∀j,j∉ix->σ4[j]? = (QcP cap σ)[j]?)->σ4.length=(QcP cap σ).length->(∀(j:Nat) x,δ4[j]? = some x->(∃e,x=.v e)∨(Qda cap δ)[j]? = some x)->inner σ4 H5 kk)(hF:N->∀H5,Kp σ δ H3 H5->kk H5) :
  bOf (QcP cap σ) (tG ix K wg) (tT K E0 wt) inner x H3 kk:=by
 have ri:=Qld (cap:=cap) rel hA hN dm kp;have iv:∀{a:Addr},Av (inF A1 cap σ δ H3) (QcP cap σ) (Qda cap δ) a->A1 a:=λ{a}=>(Qif λa z=>hA a (YN z)).mp
 refine⟨inF A1 cap σ δ H3,Qda cap δ,d,_,ri,dx.mv (λ_ _ _ e=>e) λa z=>.inl (iv z),gok.h _ _ _ h,λδ4 ⟨g4,h4⟩ σ4 r4 st4 l4 j4=>⟨Qpe hf l4 j4,inF A1 cap σ δ H3,δ4,_,XF,r4,h4,λb hb H5 r5 kp5=>?_,QoM⟩⟩;have pots:∀{b:Addr},ZO σ4 δ4 b->ZO σ δ b:=λz=>Qhl r4 (λb o _ e1 e2=>by rw[e2] at e1;cases e1) z
 have K5:Kp σ δ H3 H5:=by
  refine⟨λb o n e=>kp5.1 b o (λz=>n (pots z)) e,λb hb=>?_⟩;by_cases z:ZO σ4 δ4 b
  ·exact kp5.2 b z
  ·obtain⟨n,e⟩:=kp.2 b hb;exact⟨n,kp5.1 _ _ z e⟩
 exact Qdy hb (λz=>hT σ4 δ4 H5 z r5 K5 j4 l4 g4) λz=>hF z H5 K5
theorem Qsk{K:PySem.W.Frag}{σ σ4:L2.St}{δ δ4:Sts}{H1 H3 H5:Hp}{cap:List (Option Nat)}{we:DE}{A1:Addr->Prop}{p:Addr}{acc:List Qb}{kk:Hp->Prop}{G:Qb->Prop}
  (hpA:A1 p)(hP:∀a,ZO σ δ a->A1 a)(hp1:H1 p=none)(hpn:¬ZO σ δ p)(lp:Lp σ δ A1 p H1 H5 acc)(hl:acc.length<sizeLine)(r5:Rel K (inF A1 cap σ δ H3) σ4 H5 δ4)(pots:∀b,ZO σ4 δ4 b->ZO σ δ b)
  (h:we δ4 G XF)(hk:∀e,G e->∀H',Lp σ δ A1 p H1 H' (acc++[e])->(∀b o,¬A1 b->H5 b=some o->H' b=some o)->kk H'):Qpg p (tX .D K E0 we) σ4 H5 kk:=by
 refine⟨inF A1 cap σ δ H3,δ4,G,XF,r5,h,λe he v H6 r6 kp6 dv=>?_,QoM⟩;have k56:Kp σ δ H5 H6:=by
  refine⟨λb o n e=>kp6.1 b o (λz=>n (pots b z)) e,λb hb=>?_⟩;by_cases z:ZO σ4 δ4 b
  ·exact kp6.2 b z
  ·obtain⟨n,e⟩:=lp.kp.2 b hb;exact⟨n,kp6.1 _ _ z e⟩
 obtain⟨k6,ys,e6,q6⟩:=lp.step hP hpn k56;have up:∀{b:Addr}{o:HO},¬A1 b->H6 b=some o->upd H6 p (.lst (ys++[v])) b=some o:=λ{b o} n e=>by rw[JC (λz=>n (by rw[z];exact hpA))];exact e
 refine⟨ys,e6,by rw[q6.length];exact hl,hk e he _ ⟨⟨λb o n e=>?_,λb hb=>?_⟩,ys++[v],Jh,DAs.app (q6.mv (λ_ _=>up) λa z=>.inl z) (.cons (DA.mv dv (λa o n e=>up (λz=>n (.inl z)) e) λa z=>.inl (.inl z)) .nil)⟩ λb o n e=>up n (kp6.1 b o (λz=>n (hP b (pots b z))) e)⟩
 ·rw[JC (λz=>by rw[z,hp1] at e;cases e)];exact k6.1 b o n e
 ·rw[JC (λz=>hpn (by rw[<- z];exact hb))];exact k6.2 b hb
def Qk7:Nat:=1000000
@[irreducible] def InR(items2:List Qb)(wg2:DG)(wt2:DT)(we:DE)(δ4:Sts)(acc:List Qb)(N:List Qb->Prop):Prop:=∃Jv:Nat->List Qb->Prop,Jv 0 acc /\
 (∀(j:Nat) acc2 d2,items2[j]? = some d2->Jv j acc2->acc2.length<Qk7/\wg2 d2 δ4 λδ5=>wt2 δ5 (λb=>if b=true then we δ5 (λe=>Jv (j+1) (acc2++[e])) XF else Jv (j+1) acc2) XF)/\∀acc2,Jv items2.length acc2->N acc2
@[irreducible] def Qiv(items:List Qb)(wg:DG)(wt:DT)(wi2:DI)(wg2:DG)(wt2:DT)(we:DE)(δ:Sts)(Q:Qb->Prop):Prop:=∃Iv:Nat->List Qb->Prop,Iv 0 [] /\
 (∀(i:Nat) acc d,items[i]? = some d->Iv i acc->wg d δ λδ4=>wt δ4 (λb=>if b=true then wi2 δ4 (λitems2=>InR items2 wg2 wt2 we δ4 acc (Iv (i+1))) XF else Iv (i+1) acc) XF)/\∀acc,Iv items.length acc->Q (.list acc)
def Qpc(cap:List (Option Nat))(wi:DI)(wg:DG)(wt:DT)(wi2:DI)(wg2:DG)(wt2:DT)(we:DE):DE:=λδ Q EX=>wi δ (λitems=>Qiv items wg wt wi2 wg2 wt2 we (Qda cap δ) Q) EX
section
variable{X:Cx}{E:XK}
theorem QnD:Qk7<=sizeLine:=QJ (by decide) Qgi
end
section
variable{X:Cx}{E:XK}
end
theorem Qsf{items2:List Qb}{wg2:DG}{wt2:DT}{we:DE}{δ4:Sts}{acc:List Qb}{N:List Qb->Prop}(G:Qb->Option Qb)(hl:acc.length+items2.length<Qk7)
  (h:∀d∈items2,∀(k1:Prop)(k2:Qb->Prop),(G d=none->k1)->(∀e,G d=some e->k2 e)->wg2 d δ4 λδ5=>wt2 δ5 (λb=>if b=true then we δ5 k2 XF else k1) XF)(q:N (acc++items2.filterMap G)) :
  InR items2 wg2 wt2 we δ4 acc N:=by
 unfold InR;refine⟨λi acc2=>acc2=acc++(items2.take i).filterMap G,by simp,λi acc2 d hd e=>?_,λacc2 e=>by rw[e,ZI];exact q⟩;have e:acc2=acc++(items2.take i).filterMap G:=e;have hs:(items2.take (i+1)).filterMap G=(items2.take i).filterMap G++(G d).toList:=by
  rw[YJ,hd,YV];cases e2:G d<;>simp[e2]
 refine⟨?_,h d (Ji hd) _ _ (λe2=>?_) λe' e2=>?_⟩
 ·have:=Qbb G (items2.take i);have h2:(items2.take i).length<=items2.length:=by rw[Y5];exact QeF _ _
  rw[e,QM];omega
 ·show acc2=acc++(items2.take (i+1)).filterMap G;rw[hs,e2,e];simp
 ·show acc2++[e']=acc++(items2.take (i+1)).filterMap G;rw[hs,e2,e];simp
def Qki:List V->Hp->VK->Prop:=λxs H Q=>∃l ns,xs=[.ref l]/\H l=some (.lst ((ns:List Int).map V.int))/\ns.length<64 /\
 ∀t ms H2,Same H H2->H t=none->H2 t=some (.lst ((ms:List Int).map V.int))->ms.Perm ns->ms.Pairwise (·<=·)->Q (.ref t) H2
section
open Rs PySem.W PySem.Calls
variable{X:Cx}
theorem Qhz:CallR X (.builtin "sorted") Qki:=by
 intro pins s σ H xs us Q I r h;obtain⟨l,ns,rfl,hl,h64,q⟩:=h;obtain⟨u,rfl,ru⟩:=vals1 r;cases ru;obtain⟨hz,its,n,rv,ho⟩:=I.hok l _ hl;have li:=rv.length;rw[Qe] at li;refine Qbh (.inl rfl) ho rfl rfl (by omega) λh' kp P E' hP=>?_
 have hn:(h'.push (seqObj "list" its.toArray 0)).get? h'.objs.size=some (seqObj "list" its.toArray 0):=Qu _ rfl;refine list_sort_tree (s:={ s with heap:=h'.push (seqObj "list" its.toArray 0) }) hn (Qfe rv) (by omega) λout ns' ia pm pw=>hP _ ?_
 have I1:Inv X pins σ H { s with heap:=h' }:=I.kept (t':=s.toks) kp;have hf:H h'.objs.size=none:=I1.hok.fresh (Qh _);obtain⟨e,he⟩:∃e,(sortedHeap (h'.push (seqObj "list" its.toArray 0)) h'.objs.size its out).get? h'.objs.size=some (seqObj "list" out e):=sortedHeap_at hn
 have rv':=Qfm ia;have lp:=pm.length_eq;have I2:Inv X pins σ (upd H h'.objs.size (.lst (ns'.map V.int))) { s with heap:=sortedHeap (h'.push (seqObj "list" its.toArray 0)) h'.objs.size its out }:=
  I1.laid (t':=s.toks) (λb x e'=>(sortedHeap_old (QC (Qk e')) (QH (Qk e') (by rw[size_push'];exact QfH _))).trans (Qc _ e')) (Qh _) (show ObjOk X.prog X.w _ _ _ (.lst _) from⟨by rw[Qe];exact Ju (Rk.Z9 (by omega)),out.toList,e,rv',by rw[he]⟩)
 exact⟨.ref h'.objs.size,_,I2,rfl,q _ ns' _ (Jg hf) hf Jh pm pw⟩
def QoB(K:PySem.W.Frag):List V->Hp->VK->Prop:=λxs H Q=>QoA K xs H Q∨Qki xs H Q
theorem Qjg:CallR X (.builtin "sorted") (QoB X.K):=by
 intro pins s σ H xs us Q I r h;rcases h with h | h
 ·exact Qjf pins s σ H xs us Q I r h
 ·exact Qhz pins s σ H xs us Q I r h
end
@[irreducible] def Qj0:List Qb->(Qb->Prop)->Prop
 |[.list ds],Q=>∃ns,Qbq ds=some ns/\ns.length<64/\∀ms:List Int,ms.Perm ns->ms.Pairwise (·<=·)->Q (.list (ms.map .int))
 |[.tuple ds],Q=>∃ns,Qbq ds=some ns/\ns.length<64/\∀ms:List Int,ms.Perm ns->ms.Pairwise (·<=·)->Q (.list (ms.map .int))
 |_,_=>False
theorem Qfd{A:Addr->Prop}{H:Hp}:∀ms:List Int,DAs A H (ms.map V.int) (ms.map .int)
 |[]=>.nil
 |m::ms=>.cons (.int m) (Qfd ms)
theorem Qsx{K:PySem.W.Frag}:QbU (QoB K) Qj0:=λA P H vs ds R Q ln dm q h k=>by
 unfold Qj0 at h;split at h
 ·obtain⟨v,rfl,hv⟩:=pd1 q;obtain⟨bs,hb,h64,hR⟩:=h;rw[Qhj hb] at hv;obtain⟨l,xs,rfl,e,qq⟩:=hv.list;rw[Qc9 qq] at e;exact .inr ⟨l,bs,rfl,e,h64,λt ms H2 s n e2 pm pw=>k _ (hR ms pm pw) _ H2 s (Qce dm s n e2 (Qfd ms)) (YI n)⟩
 ·obtain⟨v,rfl,hv⟩:=pd1 q;obtain⟨bs,hb,h64,hR⟩:=h;rw[Qhj hb] at hv;obtain⟨l,xs,rfl,e,qq⟩:=hv.tuple;rw[Qc9 qq] at e;exact .inl ⟨l,bs,rfl,SqT.of e,h64,λt ms H2 s n e2 pm pw=>k _ (hR ms pm pw) _ H2 s (Qce dm s n e2 (Qfd ms)) (YI n)⟩
 ·exact h.elim
theorem QpN{ds:List Qb}{Q:Qb->Prop}{ns:List Int}(h:Qbq ds=some ns)(h64:ns.length<64)(k:∀ms:List Int,ms.Perm ns->ms.Pairwise (·<=·)->Q (.list (ms.map .int))):Qj0 [.list ds] Q/\Qj0 [.tuple ds] Q:=by
 unfold Qj0;exact⟨⟨ns,h,h64,k⟩,ns,h,h64,k⟩
def QyH(a b:DI):DI:=λδ R EX=>a δ R EX∨b δ R EX
theorem Qp4{X:Cx}{E:XK}{m:Md}{tg e:QR}{a b:DI}(h:QI m X E tg e a)(h':QI m X E tg e b):QI m X E tg e (QyH a b):=⟨λpins s σ H R I ⟨F,δ,R',EX,rel,hw,k,o⟩=>by
 rcases hw with hw | hw
 ·exact h.h pins s σ H R I ⟨F,δ,R',EX,rel,hw,k,o⟩
 ·exact h'.h pins s σ H R I ⟨F,δ,R',EX,rel,hw,k,o⟩⟩
end Dl
namespace PySem
namespace AutoSeq1
open PyProof
end AutoSeq1
end PySem
namespace L2
end L2
namespace Dl
open L2 _root_.Rd Rk
section
variable{X:Cx}{E:XK}
end
theorem QyE{K:PySem.W.Frag}{E:XK}{w:DE}(σ:L2.St)(H:Hp)(Q:VK)(h:tX .D K E w σ H Q):tX .F K E w σ H Q:=by
 obtain⟨F,δ,R,EX,rel,hw,k,o⟩:=h;exact⟨F,δ,R,EX,rel,hw,λd hd v H' r kp vk=>k d hd v H' r kp vk.1,o⟩
section
variable{X:Cx}{E:XK}
end
theorem Qja{K:PySem.W.Frag}{E:XK}{cap:List (Option Nat)}{ix ix2:List Nat}{wi wi2:DI}{wg wg2:DG}{wt wt2:DT}{we:DE}(gok:GOk wg)(hf:QcO cap ix=true)(hf2:QcO cap ix2=true)(hd:ix2.all (λi => !ix.contains i)=true)(σ:L2.St)(H:Hp)(Q:VK)(h:tX .F K E (Qpc cap wi wg wt wi2 wg2 wt2 we) σ H Q) :
  Qot cap (tI .P K E wi) (tG ix K wg) (tT K E0 wt) (tI .D K E0 wi2) (tG ix2 K wg2) (tT K E0 wt2) (tX .D K E0 we) σ H Q:=by
 obtain⟨F,δ,R,EX,rel,hw,k,o⟩:=h;refine⟨F,δ,_,EX,rel,hw,λitems hC J H1 rel1 kp1 ⟨ln,it⟩ p hp=>?_,o⟩;unfold Qiv at hC;obtain⟨Iv,i0,step,fin⟩:=hC;have hpn:¬ZO σ δ p:=λz=>by obtain⟨xs,e⟩:=rel1.isl (YN (F:=F) z);rw[hp] at e;cases e
 let A1:Addr->Prop:=λa=>Av F σ δ a∨a=p
 have hP:∀a,ZO σ δ a->A1 a:=λa z=>.inl (YN z)
 have hN:∀a,A1 a->Av F σ δ a∨H1 a=none:=λa z=>z.elim .inl λz=>.inr (by rw[z];exact hp)
 have dmK:∀{H2:Hp},Kp σ δ H1 H2->(∃ys,H2 p=some (.lst ys))->∀a,A1 a->∃xs,H2 a=some (.lst xs):=λ{H2} k2 e2 a z=>by
  rcases z with z | z
  ·exact(rel1.kp k2).isl z
  ·rw[z];exact e2
 refine QbP items.length (λi H2=>i<=items.length/\∃acc,Iv i acc/\Lp σ δ A1 p H1 H2 acc) ⟨Js _,[],i0,Kp.same rel1 (Jg hp),[],Jh,.nil⟩ (λi H2 hi ⟨_,acc,iv,lp⟩=>?_) λH2 ⟨_,acc,iv,lp⟩=>?_
 ·obtain⟨k2,ys,e2,q2⟩:=lp;obtain⟨go,_⟩:=it H2 A1 (λb o n e=>k2.1 b o n e) hN (dmK k2 ⟨ys,e2⟩);have hd':items[i]? = some items[i]:=Qf hi;obtain⟨g1,g2⟩:=go i _ hd';refine⟨g1,λx H3 y kk hk=>?_⟩;obtain⟨s3,dx⟩:=g2 x H3 y;have k23:=Kp.same (rel1.kp k2) s3;have lp3:Lp σ δ A1 p H1 H3 acc:=Lp.step hP hpn ⟨k2,ys,e2,q2⟩ k23;refine Qmr gok hf rel1 (λa z=>.inl z) hN (dmK lp3.kp ⟨ys,s3 _ _ e2⟩) lp3.kp dx (step i acc _ hd' iv) (λσ4 δ4 H5 h5 r5 k5 j4 l4 g4=>?_) λh5 H5 k5=>hk _ ⟨hi,acc,h5,lp3.step hP hpn k5⟩
  have av4:∀{H:Hp}{a:Addr},Av (inF A1 cap σ δ H) σ4 δ4 a->A1 a:=λ{H a} z=>QoV hP hf j4 g4 z
  refine⟨inF A1 cap σ δ H3,δ4,_,XF,r5,h5,λitems2 hJ J2 H7 rel7 kp7 ⟨ln2,it2⟩=>?_,QoM⟩;unfold InR at hJ;obtain⟨Jv,z0,step2,fin2⟩:=hJ;have pots4:∀{b:Addr},ZO σ4 δ4 b->ZO σ δ b:=λ{b} z=>by
   obtain⟨j,z1,z2⟩:=z;rcases g4 j _ z2 with⟨e,z⟩ | z
   ·cases z
   ·exact QbS ⟨j,by rw[<- j4 j (Qc8 hf z (λz=>by cases z))];exact z1,z⟩
  have k57:Kp σ δ H5 H7:=by
   refine⟨λb o n e=>kp7.1 b o (λz=>n (pots4 z)) e,λb hb=>?_⟩;by_cases z:ZO σ4 δ4 b
   ·exact kp7.2 b z
   ·obtain⟨n,e⟩:=k5.2 b hb;exact⟨n,kp7.1 _ _ z e⟩
  refine QbP items2.length (λj H8=>j<=items2.length/\∃acc2,Jv j acc2/\Lp σ δ A1 p H1 H8 acc2/\∀b o,¬A1 b->H7 b=some o->H8 b=some o) ⟨Js _,acc,z0,(lp3.step hP hpn k5).step hP hpn k57,λ_ _ _ e=>e⟩ (λj H8 hj ⟨_,acc2,jv,lp8,s78⟩=>?_) λH8 ⟨_,acc2,jv,lp8,s78⟩=>?_
  ·obtain⟨ys8,e8,q8⟩:=lp8.at_;obtain⟨go2,_⟩:=it2 H8 A1 (λb o n e=>s78 b o (λz=>n (.inl z)) e) (λb z=>.inl (.inl z)) (dmK lp8.kp ⟨ys8,e8⟩);have hd2:items2[j]? = some items2[j]:=Qf hj;obtain⟨g3,g5⟩:=go2 j _ hd2;refine⟨g3,λx2 H9 y2 kk2 hk2=>?_⟩;obtain⟨s9,dx2⟩:=g5 x2 H9 y2;have k89:=Kp.same (rel1.kp lp8.kp) s9;have lp9:Lp σ δ A1 p H1 H9 acc2:=lp8.step hP hpn k89;have ri:=Qld (cap:=cap) rel1 (λa z=>.inl z) hN (dmK lp9.kp ⟨ys8,s9 _ _ e8⟩) lp9.kp;have r9:=Qse hP hf j4 g4 ri r5 λa o n e=>s9 _ _ (s78 a o n (k57.1 a o (λz=>n (hP a z)) e))
   obtain⟨hl2,hw2⟩:=step2 j acc2 _ hd2 jv;refine⟨inF A1 cap σ δ H9,δ4,_,_,r9,dx2.mv (λ_ _ _ e=>e) λa z=>.inl (av4 z),hw2,λδ5 h6 σ5 r10 st5 l5 j5=>⟨Qmn l5 λi v e=>?_,inF A1 cap σ δ H9,δ5,_,XF,r10,h6,λb hb H10 r11 kp11=>?_,QoM⟩⟩
   ·by_cases z:i∈ix2
    ·have n1:i∉ix:=λz2=>by
      have:=JL.mp hd i z;simp[z2] at this
     rw[j4 i n1] at e;rcases Qfj e with⟨_,e2⟩ | ⟨j,hj2,_⟩
     ·cases e2
     ·rw[Qll hf2 z] at hj2;cases hj2
    ·rw[j5 i z];exact e
   ·have pots:∀{b:Addr},ZO σ5 δ5 b->ZO σ δ b:=λz=>Qhl r10 (λb o _ e1 e2=>by rw[e2] at e1;cases e1) z
    have K10:Kp σ δ H9 H10:=by
     refine⟨λb o n e=>kp11.1 b o (λz=>n (pots z)) e,λb hb=>?_⟩;by_cases z:ZO σ5 δ5 b
     ·exact kp11.2 b z
     ·obtain⟨n,e⟩:=lp9.kp.2 b hb;exact⟨n,kp11.1 _ _ z e⟩
    have s710:∀b o,¬A1 b->H7 b=some o->H10 b=some o:=λb o n e=>K10.1 b o (λz=>n (hP b z)) (s9 _ _ (s78 b o n e))
    refine Qdy hb (λz=>?_) λz=>hk2 _ ⟨hj,acc2,z,lp9.step hP hpn K10,s710⟩
    exact Qsk (.inr rfl) hP hp hpn (lp9.step hP hpn K10) (QH hl2 QnD) r11 (λb=>pots) z λe he H' lp' kk'=>hk2 _ ⟨hj,acc2++[e],he,lp',λb o n e=>kk' b o n (s710 b o n e)⟩
  ·obtain⟨ys8,e8,q8⟩:=lp8.at_;obtain⟨_,st2⟩:=it2 H8 A1 (λb o n e=>s78 b o (λz=>n (.inl z)) e) (λb z=>.inl (.inl z)) (dmK lp8.kp ⟨ys8,e8⟩);exact⟨st2,hk _ ⟨hi,acc2,fin2 acc2 jv,lp8⟩⟩
 ·obtain⟨k2,ys,e2,q2⟩:=lp;obtain⟨_,st⟩:=it H2 A1 (λb o n e=>k2.1 b o n e) hN (dmK k2 ⟨ys,e2⟩);refine⟨st,k _ (fin acc iv) (.ref p) H2 (rel1.kp k2) (kp1.trans k2) ⟨.lst (λz=>?_) e2 (q2.mv (λ_ _ _ e=>e) λa z=>.inl (.inl z)),λl e1 _=>?_⟩⟩
  ·obtain⟨xs,e⟩:=rel1.isl z;rw[hp] at e;cases e
  ·cases e1;exact QbQ kp1 hp
section
variable{X:Cx}{E:XK}
theorem Qh2(M:List Str)(cap:List (Option Nat))(i:Nat){elt tg iter tg2 iter2:QR}{ifs ifs2:List QR}{scope:YW}{pos py spos:Pos}{y:Str}{ix ix2:List Nat}{wi wi2:DI}{wg wg2:DG}{wt wt2:DT}{we:DE}(hN:X.N.Nodup)(gok:GOk wg)(hi:QI .P X E tg iter wi)(hb:∀cl ex s3 H3 C,QG ix (blk X M scope cl ex s3 H3 C) tg wg/\QTs (blk X M scope cl ex s3 H3 C) E0 ifs wt/\QI .D (blk X M scope cl ex s3 H3 C) E0 tg2 iter2 wi2/\QG ix2 (blk X M scope cl ex s3 H3 C) tg2 wg2/\QTs (blk X M scope cl ex s3 H3 C) E0 ifs2 wt2/\QE .D (blk X M scope cl ex s3 H3 C) E0 elt we)(hiy:X.N[i]? = some y:=by rfl)(hly:X.env.scope.names.lookup y=some .local:=by rfl)(hc:X.calm=true:=by rfl)(ok:Qhy X.N X.env.scope M scope cap=true:=by rfl)(hf:QcO cap ix=true:=by rfl)(hf2:QcO cap ix2=true:=by rfl)(hd:ix2.all (λi => !ix.contains i)=true:=by rfl)(hs:∀x,foldedSetIterable iter X.env x=pure x:=by intro _;rfl)(hs2:∀env x,foldedSetIterable iter2 env x=pure x:=by intro _ _;rfl)(hsw:swapsWith (.ListComp elt [⟨tg,iter,ifs,0⟩,⟨tg2,iter2,ifs2,0⟩] scope pos) (some (.Name y py)) spos.line X.env=pure true:=by rfl):QS X E (.Assign [.Name y py] (.ListComp elt [⟨tg,iter,ifs,0⟩,⟨tg2,iter2,ifs2,0⟩] scope pos) spos) (Qxr i (Qpc cap wi wg wt wi2 wg2 wt2 we)):=
 ⟨Qky (PS.imp (PS.imp (Qf7 hN hiy hly hc ok hi.h (λcl ex s3 H3 C=>⟨(hb cl ex s3 H3 C).1.h,(hb cl ex s3 H3 C).2.1.h,(hb cl ex s3 H3 C).2.2.1.h,(hb cl ex s3 H3 C).2.2.2.1.h,(hb cl ex s3 H3 C).2.2.2.2.1.h,(hb cl ex s3 H3 C).2.2.2.2.2.h⟩) hs hs2 hsw) λD σ H q=>Qja (E:=E) gok hf hf2 hd σ H _ q) λD σ H q=>QyE σ H _ q)⟩
end
theorem Qf8{A:Addr->Prop}{H:Hp}(dm:∀a,A a->∃xs,H a=some (.lst xs)):∀(M:List (Int×Int))(ys:List V),Dats H ys (M.map Rk.pairD)->DAs A H ys (M.map Rk.pairD)
 |[],ys,h=>by cases h;exact .nil
 |m::M,ys,h=>by
  cases h with
  |@cons x xs _ _ h1 h2=>
   refine .cons ?_ (Qf8 dm M xs h2)
   cases h1 with
   |@tup a zs _ e q=>
    refine .tup (λz=>?_) e ?_
    ·obtain⟨xs,e'⟩:=dm a z;rw[e] at e';cases e'
    ·cases q with
     |cons a b=>
      cases a;cases b with
      |cons a b=>cases a;cases b;exact .cons (.int _) (.cons (.int _) .nil)
theorem QaB(L:List (Int×Int)):nds (L.map Rk.pairD)=true:=Qk0.mpr λd hd=>by
 obtain⟨i,_,rfl⟩:=QF.mp hd;rfl
@[irreducible] def sortPD:List Qb->(Qb->Prop)->Prop
 |[.list ds],Q=>∃L:List (Int×Int),ds=L.map Rk.pairD/\L.Nodup/\L.length<64/\(∀ij∈L,0<=ij.2/\ij.2<64)/\∀M:List (Int×Int),M.Perm L->M.Pairwise (λa b=>Rs.code a<Rs.code b)->Q (.list (M.map Rk.pairD))
 |_,_=>False
theorem cd_sortP:QbU Qkh sortPD:=λA P H vs ds R Q ln dm q h k=>by
 unfold sortPD at h;split at h
 ·obtain⟨v,rfl,hv⟩:=pd1 q;obtain⟨L,rfl,nd',h64,hb,hR⟩:=h;obtain⟨l,xs,rfl,e,qq⟩:=hv.list;refine⟨l,xs,L,rfl,e,Qam _ _ (QaB L) qq,nd',h64,hb,λt ys M H2 s n e2 dts pm pw=>?_⟩;have dm2:∀a,A a->∃xs,H2 a=some (.lst xs):=λa z=>by obtain⟨xs,e⟩:=dm a z;exact⟨xs,s _ _ e⟩
  refine k _ (hR M pm pw) _ H2 s (.lst (λz=>?_) e2 (Qf8 dm2 M ys dts)) (YI n);obtain⟨xs,e⟩:=dm t z;rw[n] at e;cases e
 ·exact h.elim
theorem sortP_of{L:List (Int×Int)}{Q:Qb->Prop}(h1:L.Nodup)(h2:L.length<64)(h3:∀ij∈L,0<=ij.2/\ij.2<64)(k:∀M:List (Int×Int),M.Perm L->M.Pairwise (λa b=>Rs.code a<Rs.code b)->Q (.list (M.map Rk.pairD))):sortPD [.list (L.map Rk.pairD)] Q:=by
 unfold sortPD;exact⟨L,rfl,h1,h2,h3,k⟩
def rkD:Qb->Nat
 |.int _=>0
 |.tuple _=>1
 |_=>2
def Ql8(i j:Int):Ordering:=if i<j then .lt else if i=j then .eq else .gt
def QyI(i j:Nat):Ordering:=if i<j then .lt else if i=j then .eq else .gt
def thn(o:Ordering)(p:Ordering):Ordering:=match o with
 |.eq=>p
 |o=>o
mutual
def QsV:Qb->Qb->Ordering
 |.int i,.int j=>Ql8 i j
 |.tuple a,.tuple b=>Qjc a b
 |x,y=>QyI (rkD x) (rkD y)
def Qjc:List Qb->List Qb->Ordering
 |[],[]=>.eq
 |[],_::_=>.lt
 |_::_,[]=>.gt
 |x::xs,y::ys=>thn (QsV x y) (Qjc xs ys)
end
def isL:Ordering->Bool
 |.lt=>true
 |_=>false
def ltD(x y:Qb):Bool:=isL (QsV x y)
def QuB(x y:List Qb):Bool:=isL (Qjc x y)
def sw:Ordering->Ordering
 |.lt=>.gt
 |.gt=>.lt
 |.eq=>.eq
mutual
def Ql7:Qb->Qb->Bool
 |.int _,.int _=>true
 |.tuple a,.tuple b=>Qhu a b
 |_,_=>false
def Qhu:List Qb->List Qb->Bool
 |x::xs,y::ys=>Ql7 x y&&Qhu xs ys
 |_,_=>true
end
def isE:Ordering->Bool
 |.eq=>true
 |_=>false
theorem Qsb(a b:Ordering):isE (thn a b)=(isE a&&isE b):=by cases a<;>rfl
mutual
theorem Qo3:∀(x y:Qb),Ql7 x y=true->QL x y=isE (QsV x y)
 |.int i,.int j,_=>by
  show(i == j)=isE (Ql8 i j);unfold Ql8;by_cases h:i=j
  ·subst h;simp[isE]
  ·rw[beq_eq_false_iff_ne.mpr h];split
   ·rfl
   ·rfl
 |.tuple a,.tuple b,h=>Qlo a b h
 |.int _,.tuple _,h=>by cases h
 |.tuple _,.int _,h=>by cases h
 |.int _,.none,h=>by cases h
 |.int _,.bool _,h=>by cases h
 |.int _,.str _,h=>by cases h
 |.int _,.list _,h=>by cases h
 |.int _,.dict _,h=>by cases h
 |.tuple _,.none,h=>by cases h
 |.tuple _,.bool _,h=>by cases h
 |.tuple _,.str _,h=>by cases h
 |.tuple _,.list _,h=>by cases h
 |.tuple _,.dict _,h=>by cases h
 |.none,y,h=>by cases y<;>cases h
 |.bool _,y,h=>by cases y<;>cases h
 |.str _,y,h=>by cases y<;>cases h
 |.list _,y,h=>by cases y<;>cases h
 |.dict _,y,h=>by cases y<;>cases h
theorem Qlo:∀(xs ys:List Qb),Qhu xs ys=true->Qa7 xs ys=isE (Qjc xs ys)
 |[],[],_=>rfl
 |[],_::_,_=>rfl
 |_::_,[],_=>rfl
 |x::xs,y::ys,h=>by
  have h:=QU.mp (show(Ql7 x y&&Qhu xs ys)=true from h);show(QL x y&&Qa7 xs ys)=isE (thn (QsV x y) (Qjc xs ys));rw[Qo3 x y h.1,Qlo xs ys h.2,Qsb]
end
end Dl
namespace Rt
open PySem.Calls Dl
theorem Qgq:∀{ds:List Qb}{d:Qb},d∈ds->d.depth<=Ja ds
 |x::ds,d,h=>by
  show d.depth<=max x.depth (Ja ds);rcases Qq.mp h with z | z
  ·subst z;exact Nat.le_max_left _ _
  ·exact QJ (Qgq z) (QsN _ _)
theorem readsAll_len{h:JR}:∀{vs:List Value}{ds:List Qb}{as:List Addr},Qc0 h vs ds as->vs.length=ds.length
 |_,_,_,.nil=>rfl
 |_,_,_,.cons _ r=>by rw[QZ,QZ,readsAll_len r]
section
open PySem.SeqAt
open PySem.AutoSeq1 (wpAny_loadPart')
open PySem.MeetsSeq PySem.MeetsSeq2 PySem.MeetsSeq3
theorem QfO{l b:Addr}{items items2:Array Value}{n n2:Nat}{dd dd2:Option Addr}{sl sl2:Array (Option Value)}{ds es:List Qb}{as bs:List Addr}{N:Nat}(hk:Qhu ds es=true)(hc1:JF ds=true)(hc2:JF es=true)(hd:Ja ds<=N)
  (ih:∀(x y:Qb)(A:Jb)(s:Shared)(v u:Value)(p q:List Addr),QjA s.heap v x p->QjA s.heap u y q->x.canLay0=true->y.canLay0=true->Ql7 x y=true->x.depth<=N->A.units+2*N+2<cLine->∀(prog:Qz)(w:Jf)(E Q:Value->Shared->Prop),Q (.bool (ltD x y)) s->wpAny (model prog w) A (richCompare .Lt v u) Q E s) :
  Meets (QcY.«tuple.__lt__» ⟨[.ref l,.ref b],[]⟩)
   (λA R s=>s.heap.get? l=some { cls:=.type "tuple",dict:=dd,data:=.seq items n,slots:=sl }/\s.heap.get? b=some { cls:=.type "tuple",dict:=dd2,data:=.seq items2 n2,slots:=sl2 }/\Qc0 s.heap items.toList ds as/\Qc0 s.heap items2.toList es bs/\A.units+2*N+4<cLine /\
    R (.ok (.ret (.bool (QuB ds es)))) s):=
 .of_wp λprog w A R s h=>by
  obtain⟨hp,g,d,tk,os⟩:=s;obtain⟨hl,hb,hr1,hr2,hu,h⟩:=h;have f2:=AutoSeq1.sub_tuple_tuple;have hu1:A.in1.units+2*N+2<cLine:=by show A.units+1+2*N+2<cLine;omega
  have z1:items.size=ds.length:=by rw[<- readsAll_len hr1];simp
  have z2:items2.size=es.length:=by rw[<- readsAll_len hr2];simp
  wp_walk using Ye hl,Ye hb,wpAny_forIn_list _ (λrest b s'=>b.1=none/\s'=⟨hp,g,d,tk,os⟩/\∃(vs ws:List Value)(xs ys:List Qb)(p q:List Addr),rest=vs.zip ws /\
   Qc0 hp vs xs p/\Qc0 hp ws ys q/\Qhu xs ys=true/\JF xs=true/\JF ys=true/\Ja xs<=N/\xs.length+items2.size=ys.length+items.size/\R (.ok (.ret (.bool (QuB xs ys)))) ⟨hp,g,d,tk,os⟩) _
  case turn=>
   rintro⟨y,x⟩ rest b s' ⟨hb',rfl,vs,ws,xs,ys,p,q,hz,hvi,hwi,hkk,c1,c2,hdd,hlen,hR⟩;cases hvi with
   |nil=>rw[List.zip_nil_left] at hz;cases hz
   |@cons v0 vs0 d1 ds1 as1 as2 r1 hvi'=>
    cases hwi with
    |nil=>rw[List.zip_nil_right] at hz;cases hz
    |@cons u0 us0 d2 ds2 bs1 bs2 r2 hwi'=>
     rw[Qmg] at hz;injection hz with hyx hrest
     injection hyx with hy hx
     subst hy hx;have hkk:=QU.mp (show(Ql7 d1 d2&&Qhu ds1 ds2)=true from hkk);simp only[JF,Jy] at c1 c2;have dm1:d1.depth<=N:=QJ (Qgq (ds:=d1::ds1) (.head _)) hdd;have dm2:Ja ds1<=N:=QJ (show Ja ds1<=max d1.depth (Ja ds1) from QsN _ _) hdd;simp only[QZ] at hlen;have he:=Qoi d1 d2 A.in1 ⟨hp,g,d,tk,os⟩ y x _ _ r1 r2 c1.1 c2.1 (by omega);have hR:R (.ok (.ret (.bool (isL (thn (QsV d1 d2) (Qjc ds1 ds2)))))) ⟨hp,g,d,tk,os⟩:=hR;rw[Qo3 d1 d2 hkk.1] at he;have hri:=λE Q=>ih d1 d2 A.in1 ⟨hp,g,d,tk,os⟩ y x _ _ r1 r2 c1.1 c2.1 hkk.1 dm1 hu1 prog w E Q
     unfold ltD at hri;cases e1:QsV d1 d2 with
     |lt=>
      rw[e1] at he hR hri;refine wpAny_bind (he prog w _ _ ?_)
      wp_walk using hri
      exact⟨_,rfl,hR⟩
     |gt=>
      rw[e1] at he hR hri;refine wpAny_bind (he prog w _ _ ?_)
      wp_walk using hri
      exact⟨_,rfl,hR⟩
     |eq=>
      rw[e1] at he hR;refine wpAny_bind (he prog w _ _ ?_)
      wp_walk
      exact⟨rfl,rfl,_,_,_,_,_,_,hrest,hvi',hwi',hkk.2,c1.2,c2.2,dm2,by omega,hR⟩
  case fin=>
   rintro⟨b1,b2⟩ s' ⟨hb',rfl,vs,ws,xs,ys,p,q,hz,hvi,hwi,hkk,c1,c2,hdd,hlen,hR⟩;simp only at hb';subst hb';have hv:QuB xs ys=decide (items.size<items2.size):=by
    cases hvi with
    |nil=>
     cases hwi with
     |nil=>
      simp only[Qfv] at hlen;exact(decide_eq_false (by omega)).symm
     |cons r2 hw=>
      simp only[Qfv,QZ] at hlen;exact(decide_eq_true (by omega)).symm
    |cons r1 hv=>
     cases hwi with
     |nil=>
      simp only[Qfv,QZ] at hlen;exact(decide_eq_false (by omega)).symm
     |cons r2 hw=>
      rw[Qmg] at hz;cases hz
   rw[hv] at hR
   wp_walk
   exact⟨_,rfl,by simpa [Qwf] using hR⟩
  case h=>
   exact⟨rfl,rfl,items.toList,items2.toList,ds,es,as,bs,rfl,hr1,hr2,hk,hc1,hc2,hd,by omega,h⟩
end
end Rt
namespace Rt
open PySem.Calls PySem.W Dl
mutual
def okK:Qb->Bool
 |.int _=>true
 |.tuple ds=>QvI ds
 |_=>false
def QvI:List Qb->Bool
 |[]=>true
 |d::ds=>okK d&&QvI ds
end
theorem Qwy:∀(N:Nat)(x y:Qb)(A:Jb)(s:Shared)(v u:Value)(p q:List Addr),QjA s.heap v x p->QjA s.heap u y q->x.canLay0=true->y.canLay0=true->Ql7 x y=true->x.depth<=N->A.units+2*N+2<cLine->∀(prog:Qz)(w:Jf)(E Q:Value->Shared->Prop),Q (.bool (ltD x y)) s->wpAny (model prog w) A (richCompare .Lt v u) Q E s:=by
 intro N;have intz:∀(i j:Int)(A:Jb)(s:Shared)(v u:Value)(p q:List Addr),QjA s.heap v (.int i) p->QjA s.heap u (.int j) q->∀(prog:Qz)(w:Jf)(E Q:Value->Shared->Prop),Q (.bool (ltD (.int i) (.int j))) s->wpAny (model prog w) A (richCompare .Lt v u) Q E s:=by
  intro i j A s v u p q r1 r2 prog w E Q h;cases r1;cases r2;refine HT.QmJ A s i _ j _ prog w E Q ?_
  have e:ltD (.int i) (.int j)=decide (i<j):=by
   show isL (Ql8 i j)=_;unfold Ql8;by_cases z:i<j
   ·rw[if_pos z,decide_eq_true z];rfl
   ·rw[if_neg z,decide_eq_false z];split<;>rfl
  rw[e] at h;exact h
 induction N with
 |zero=>
  intro x y A s v u p q r1 r2 c1 c2 hk hd hu prog w E Q h;cases x<;>cases y<;>first | (cases hk;done) | skip
  ·exact intz _ _ A s v u p q r1 r2 prog w E Q h
  ·unfold Zk at hd;omega
 |succ N ih=>
  intro x y A s v u p q r1 r2 c1 c2 hk hd hu prog w E Q h;cases x<;>cases y<;>first | (cases hk;done) | skip
  ·exact intz _ _ A s v u p q r1 r2 prog w E Q h
  ·rename_i ds es
   cases r1 with
   |@tuple a o vs n _ _ ho hc hd' ra=>
    cases r2 with
    |@tuple b o2 vs2 n2 _ _ ho2 hc2 hd2 rb=>
     obtain⟨cls,dd,data,sl⟩:=o;obtain⟨cls2,dd2,data2,sl2⟩:=o2;simp only at hc hd' hc2 hd2;subst hc hd' hc2 hd2;have dd3:Ja ds<=N:=by unfold Zk at hd;omega
     exact richCompare_meets_room (op:=.Lt) ⟨_,ho,rfl⟩ ⟨_,ho2,rfl⟩ PySem.F.slot_tuple_lt PySem.F.entry_tuple_lt (PySem.F.args_tuple_lt_2 _ _) (QfO (N:=N) hk c1 c2 dd3 ih)
      ⟨ho,ho2,ra,rb,by omega,show Qa2 (QuB ds es)≠Value.notImplemented/\Q (.bool (QuB ds es)) s from⟨(λx=>nomatch x),h⟩⟩ (by omega)
section
variable{prog:Qz}{w:Jf}{A:Jb}{E:Value->Shared->Prop}{s:Shared}
end
section
variable{M:Qs4}{A:Jb}{E:Value->Shared->Prop}{s:Shared}
end
section
variable{prog:Qz}{w:Jf}{A:Jb}{E:Value->Shared->Prop}{s:Shared}
end
end Rt
namespace Rt
open PySem.Calls PySem.W Dl Rs
section
variable{prog:Qz}{w:Jf}{A:Jb}{E:Value->Shared->Prop}{s:Shared}
end
end Rt
namespace L2
open PySem.Calls _root_.Rd _root_.Rk _root_.Rs Rt Dl
section
variable{X:Cx}
end
end L2
namespace Dl
open L2 _root_.Rd Rk Rt
mutual
theorem QkU:∀(d:Qb),okK d=true->nd d=true
 |.int _,_=>rfl
 |.tuple ds,h=>QkT ds h
 |.none,h=>by cases h
 |.bool _,h=>by cases h
 |.str _,h=>by cases h
 |.list _,h=>by cases h
 |.dict _,h=>by cases h
theorem QkT:∀(ds:List Qb),QvI ds=true->nds ds=true
 |[],_=>rfl
 |d::ds,h=>by
  have h:=QU.mp (show(okK d&&QvI ds)=true from h);show(nd d&&nds ds)=true;rw[QkU d h.1,QkT ds h.2];rfl
end
end Dl
namespace L2
open PySem.Calls _root_.Rd _root_.Rk Rt
section
variable{X:Cx}
def QxM:R2:=λx y H Q=>∃d e,Dat H x d/\Dat H y e/\Dl.Ql7 d e=true/\d.depth<=20/\Q (.bl (Dl.ltD d e)) H
theorem Quf(hu:X.A.units+60<cLine):OpR X (compareOp .Lt) QxM:=by
 intro pins s σ H x y v u Q I rx ry h;obtain⟨d,e,qx,qy,hk,hd,q⟩:=h;obtain⟨⟨as,ra⟩,ca⟩:=ZM I.hok d x v qx rx;obtain⟨⟨bs,rb⟩,cb⟩:=ZM I.hok e y u qy ry;exact Qwy 20 d e X.A s v u as bs ra rb ca cb hk hd (by omega) _ _ _ _ ⟨.bl _,H,I,rfl,q⟩
end
end L2
namespace Dl
open L2 _root_.Rd Rk Rt
def Qyy:Qb->Qb->(Qb->Prop)->Prop:=λd e Q=>(okK d=true/\okK e=true/\Ql7 d e=true/\d.depth<=20)/\Q (.bool (ltD d e))
theorem Quw:OpD QxM Qyy:=λA P H x y d1 d2 R Q ln dm hx hy h k=>by
 obtain⟨⟨h1,h2,h3,h4⟩,hR⟩:=h;exact⟨d1,d2,hx.dat (QkU d1 h1),hy.dat (QkU d2 h2),h3,h4,k _ hR _ H (Same.refl H) (.bl _) YR⟩
section
variable{X:Cx}{E:XK}
end
end Dl
namespace Rk
open L2 _root_.Rd Dl
def inW(d:Qb)(a b:Int):Bool:=match d with
 |.int i=>decide (a<=i)&&decide (i<=b)
 |_=>false
theorem Qi7{i a b:Int}(h1:a<=i)(h2:i<=b):inW (.int i) a b=true:=by
 show(decide (a<=i)&&decide (i<=b))=true;rw[decide_eq_true h1,decide_eq_true h2];rfl
theorem QuN{d:Qb}{a b:Int}(h:inW d a b=true):∃i,d=.int i/\a<=i/\i<=b:=by
 cases d<;>first | (cases h;done) | skip
 rename_i i
 have h:=QU.mp (show(decide (a<=i)&&decide (i<=b))=true from h);exact⟨i,rfl,of_decide_eq_true h.1,of_decide_eq_true h.2⟩
def Qcw:DF:=λargs R _=>∃d a b,args=[.v d,.v (.int a),.v (.int b)]/\R (.bool (inW d a b))
theorem Qcf(ns:List Int):nds (ns.map Qs)=true:=Qk0.mpr λd hd=>by
 obtain⟨i,_,rfl⟩:=QF.mp hd;rfl
theorem QnU(xs:List Qb)(k:Int)(h:0<=k):Dl.cutD xs none (some k)=xs.take k.toNat:=by
 unfold Dl.cutD;obtain⟨j,rfl⟩:∃j:Nat,k=j:=⟨k.toNat,by omega⟩
 rw[HT.QeU,HT.Qj9,Qs6,Nat.sub_zero,QD];by_cases z:j<=xs.length
 ·rw[QfG z]
 ·rw[Nat.min_eq_right (by omega),ZI,List.take_of_length_le (by omega)]
end Rk
namespace Rx
open PySem.Calls L2
section
variable{X:Cx}{e:QR}{st:ZG}{rest:List ZG}{pos:Pos}{te:TX}{t u:TSX}
end
end Rx
namespace L2
open Dl
end L2
namespace Dl
open L2 _root_.Rd Rk
section
variable{X:Cx}
variable{k:Nat}{f:Addr}{fd:QN}{ps:List Str}{x:Str}{p pos:Pos}{e:QR}{es:List QR}{fD:DF}{wa:DSl}
end
end Dl
namespace Rk
open L2 _root_.Rd Dl Rt
def QfZ:List Qb->Bool
 |x::y::r=>ltD x y&&QfZ (y::r)
 |_=>true
def QuA:Qb->Bool
 |.tuple [a,b]=>ltD a b
 |_=>false
theorem Qva(d:Qb)(ds:List Qb):Dl.cutD (d::ds) (some 1) none=ds:=by
 unfold Dl.cutD;rw[HT.QeU,show(1:Int)=((1:Nat):Int) from rfl,HT.Qj9];rw[QfG (by rw[QZ];omega),List.drop_one,List.tail_cons,QZ,Yz,ZI]
theorem Qdd:∀ds:List Qb,(QiB ds (Dl.cutD ds (some 1) none)).all QuA=QfZ ds
 |[]=>by
  have h:(QiB ([]:List Qb) (Dl.cutD [] (some 1) none))=[]:=by unfold QiB;rfl
  rw[h];rfl
 |[x]=>by rw[Qva];rfl
 |x::y::r=>by
  have ih:=Qdd (y::r);rw[Qva] at ih ⊢;show(QuA (.tuple [x,y])&&(QiB (y::r) r).all QuA)=_;rw[ih];rfl
def Ql1(ds:List Qb):Prop:=∀x∈ds,okK x=true/\x.depth<=20/\∀y∈ds,Ql7 x y=true
def QeX:DF:=λargs R _=>∃ds:List Qb,(args=[.v (.tuple ds)]∨args=[.v (.list ds)])/\Ql1 ds/\R (.bool (QfZ ds))
def Qsa(h w:Int):Qb->Bool
 |.tuple [a,b]=>inW a 0 (h - 1)&&inW b 0 (w - 1)
 |_=>false
theorem QuL{h w:Int}{d:Qb}(q:Qsa h w d=true):∃p:Int×Int,d=pairD p/\0<=p.1/\p.1<h/\0<=p.2/\p.2<w:=by
 cases d<;>first | (cases q;done) | skip
 rename_i ds
 match ds,q with
 |[a,b],q=>
  have q:=QU.mp (show(inW a 0 (h - 1)&&inW b 0 (w - 1))=true from q);obtain⟨i,rfl,i1,i2⟩:=QuN q.1;obtain⟨j,rfl,j1,j2⟩:=QuN q.2;exact⟨(i,j),rfl,i1,by show i<h;omega,j1,by show j<w;omega⟩
 |[],q=>cases q
 |[_],q=>cases q
 |_::_::_::_,q=>cases q
theorem QuK{h w:Int}{p:Int×Int}(h1:0<=p.1)(h2:p.1<h)(h3:0<=p.2)(h4:p.2<w):Qsa h w (pairD p)=true:=by
 show(inW (.int p.1) 0 (h - 1)&&inW (.int p.2) 0 (w - 1))=true;rw[Qi7 h1 (by omega),Qi7 h3 (by omega)];rfl
def toP:Qb->Int×Int
 |.tuple [.int a,.int b]=>(a,b)
 |_=>(0,0)
theorem QmO{h w:Int}{ds:List Qb}(q:ds.all (Qsa h w)=true):∃L:List (Int×Int),ds=L.map pairD/\∀p∈L,0<=p.1/\p.1<h/\0<=p.2/\p.2<w:=by
 induction ds with
 |nil=>exact⟨[],rfl,λ_ h=>nomatch h⟩
 |cons d ds ih=>
  rw[QhL,Jy] at q;obtain⟨p,rfl,hp⟩:=QuL q.1;obtain⟨L,rfl,hL⟩:=ih q.2;refine⟨p::L,rfl,λx hx=>?_⟩;rcases Qq.mp hx with z | z
  ·rw[z];exact hp
  ·exact hL x z
theorem QaQ(p:Int×Int):(pairD p).depth<=1:=by
 show Ja [.int p.1,.int p.2]+1<=1;simp[Ja,Zk]
theorem QaR{n:Nat}:∀{ds:List Qb},(∀d∈ds,d.depth<=n)->Ja ds<=n
 |[],_=>Js _
 |d::ds,h=>by
  show max d.depth (Ja ds)<=n;exact Nat.max_le.mpr ⟨h d (.head _),QaR λd hd=>h d (.tail _ hd)⟩
theorem Qgt(L:List (Int×Int)):Ql1 (L.map pairD):=λx hx=>by
 obtain⟨p,_,rfl⟩:=QF.mp hx;refine⟨rfl,QJ (QaQ p) (by decide),λy hy=>?_⟩;obtain⟨q,_,rfl⟩:=QF.mp hy;rfl
theorem Qhr(L:List (Int×Int)):(Qaw (L.map pairD)).depth<=2:=by
 show Ja (L.map pairD)+1<=2;have:=QaR (n:=1) (ds:=L.map pairD) λd hd=>by obtain⟨p,_,rfl⟩:=QF.mp hd;exact QaQ p
 omega
def plt(p q:Int×Int):Prop:=p.1<q.1∨(p.1=q.1/\p.2<q.2)
instance plt_dec (p q:Int×Int):Decidable (plt p q):=by unfold plt;exact inferInstance
theorem QnC(p q:Int×Int):ltD (pairD p) (pairD q)=decide (plt p q):=by
 show isL (thn (Ql8 p.1 q.1) (thn (Ql8 p.2 q.2) .eq))=_;unfold Ql8 plt;by_cases h1:p.1<q.1
 ·rw[if_pos h1];exact(decide_eq_true (.inl h1)).symm
 ·rw[if_neg h1];by_cases h2:p.1=q.1
  ·rw[if_pos h2];by_cases h3:p.2<q.2
   ·rw[if_pos h3];exact(decide_eq_true (.inr ⟨h2,h3⟩)).symm
   ·rw[if_neg h3];have:decide (p.1<q.1∨p.1=q.1/\p.2<q.2)=false:=decide_eq_false (by omega);rw[this];split<;>rfl
  ·rw[if_neg h2];exact(decide_eq_false (by omega)).symm
theorem QdB(p q:Int×Int):QL (pairD p) (pairD q)=decide (p=q):=by
 show((p.1 == q.1)&&((p.2 == q.2)&&true))=_;obtain⟨a,b⟩:=p;obtain⟨c,d⟩:=q;by_cases h1:a=c
 ·by_cases h2:b=d
  ·subst h1 h2;simp
  ·simp[h1,h2]
 ·simp[h1]
theorem QdJ(cs:List (Int×Int))(p:Int×Int):((cs.map pairD).any λc=>QL c (pairD p))=decide (p∈cs):=by
 rw[Qjr,J7,Qpu,decide_eq_true_iff];constructor
 ·rintro⟨c,hc,h⟩;have:c=p:=of_decide_eq_true (by rw[<- QdB];exact h);rw[<- this];exact hc
 ·intro h;refine⟨p,h,?_⟩;show QL (pairD p) (pairD p)=true;rw[QdB];simp
def QxV(h w:Int):Qb->Bool
 |.tuple ds=>ds.all (Qsa h w)&&QfZ ds
 |_=>false
def bdD(h w:Int)(cs:List (Int×Int)):Qb:=.tuple [.int h,.int w,.tuple (cs.map pairD)]
def Qkq:DF:=λargs R _=>∃(h w:Int)(d:Qb),args=[.v (.int h),.v (.int w),.v d]/\R (.bool (Qsa h w d))
def QlG:DF:=λargs R _=>∃(h w:Int)(d:Qb),args=[.v (.int h),.v (.int w),.v d]/\R (.bool (QxV h w d))
theorem Qjj(ns:List Int):Qbq (ns.map Qs)=some ns:=Dl.ints_map ns
def QbC(r n:Nat)(f:Nat->Nat->Bool):List (Int×Int):=((Qg n).filter (f r)).map λ(c:Nat)=>((r:Int),(c:Int))
def cellsF(h w:Nat)(f:Nat->Nat->Bool):List (Int×Int):=(Qg h).flatMap λr=>QbC r w f
def QpC(f:Nat->Nat->Bool)(i j:Nat)(b:Bool):Nat->Nat->Bool:=λr c=>if r=i/\c=j then b else f r c
theorem ZN(h w:Nat)(f:Nat->Nat->Bool):cellsF (h+1) w f=cellsF h w f++QbC h w f:=by
 unfold cellsF;rw[J6,ZC];simp
theorem Qkc(r n:Nat)(f:Nat->Nat->Bool):QbC r (n+1) f=QbC r n f++(if f r n=true then[((r:Int),(n:Int))] else[]):=by
 unfold QbC;rw[J6,QaG,Zg]
 congr 1
 by_cases z:f r n=true
 ·rw[if_pos z];simp[z]
 ·rw[if_neg z];simp[z]
theorem Qei{r n:Nat}{f g:Nat->Nat->Bool}(h:∀c,c<n->f r c=g r c):QbC r n f=QbC r n g:=by
 unfold QbC
 congr 1
 exact YL λc hc=>h c (Qw.mp hc)
theorem Qbn{h w:Nat}{f g:Nat->Nat->Bool}(q:∀r c,r<h->c<w->f r c=g r c):cellsF h w f=cellsF h w g:=by
 induction h with
 |zero=>rfl
 |succ h ih=>rw[ZN,ZN,ih λr c hr=>q r c (by omega),Qei λc hc=>q h c (by omega) hc]
theorem Qjd{h w i j:Nat}{f:Nat->Nat->Bool}{b:Bool}(hi:h<=i):cellsF h w (QpC f i j b)=cellsF h w f:=Qbn λr c hr _=>if_neg λz=>by omega
theorem QmE{i n j:Nat}{f:Nat->Nat->Bool}{b:Bool}(hj:n<=j):QbC i n (QpC f i j b)=QbC i n f:=Qei λc hc=>if_neg λz=>by omega
theorem Qcg{r n:Nat}{f:Nat->Nat->Bool}{p:Int×Int}:p∈QbC r n f↔∃c:Nat,c<n/\f r c=true/\p=((r:Int),(c:Int)):=by
 unfold QbC;rw[QF];constructor
 ·rintro⟨c,hc,rfl⟩;have hc:=QP.mp hc;exact⟨c,Qw.mp hc.1,hc.2,rfl⟩
 ·rintro⟨c,hc,hf,rfl⟩;exact⟨c,QP.mpr ⟨Qw.mpr hc,hf⟩,rfl⟩
theorem Yp{h w:Nat}{f:Nat->Nat->Bool}{p:Int×Int}:p∈cellsF h w f↔∃r c:Nat,r<h/\c<w/\f r c=true/\p=((r:Int),(c:Int)):=by
 unfold cellsF;rw[J8];constructor
 ·rintro⟨r,hr,hp⟩;obtain⟨c,hc,hf,rfl⟩:=Qcg.mp hp;exact⟨r,c,Qw.mp hr,hc,hf,rfl⟩
 ·rintro⟨r,c,hr,hc,hf,rfl⟩;exact⟨r,Qw.mpr hr,Qcg.mpr ⟨c,hc,hf,rfl⟩⟩
theorem YD{h w:Nat}{f:Nat->Nat->Bool}{p:Int×Int}(q:p∈cellsF h w f):0<=p.1/\p.1<h/\0<=p.2/\p.2<w:=by
 obtain⟨r,c,hr,hc,_,rfl⟩:=Yp.mp q;exact⟨Qon _,by show(r:Int)<h;omega,Qon _,by show(c:Int)<w;omega⟩
theorem QhW(r n:Nat)(f:Nat->Nat->Bool):(QbC r n f).length<=n:=by
 unfold QbC;rw[Qe];exact QJ (QbX _ _) (by rw[Qv];exact Qh _)
theorem QaC(w:Nat)(f:Nat->Nat->Bool):∀h,(cellsF h w f).length<=h*w
 |0=>Js _
 |h+1=>by
  have:=QaC w f h;have:=QhW h w f;rw[ZN,QM,Qd6];omega
theorem Qp7(r n:Nat)(f:Nat->Nat->Bool):(QbC r n f).Pairwise plt:=by
 unfold QbC;refine Qwa (R:=λa b=>a<b) _ (λa b hab=>.inr ⟨rfl,by show(a:Int)<b;omega⟩) ?_
 exact Yw _ YG
theorem pw_cellsF(w:Nat)(f:Nat->Nat->Bool):∀h,(cellsF h w f).Pairwise plt
 |0=>.nil
 |h+1=>by
  rw[ZN];refine QjD.mpr ⟨pw_cellsF w f h,Qp7 h w f,λp hp q hq=>?_⟩;obtain⟨r,c,hr,_,_,rfl⟩:=Yp.mp hp;obtain⟨c',_,_,rfl⟩:=Qcg.mp hq;exact .inl (by show(r:Int)<h;omega)
theorem QoI{p q:Int×Int}(h:plt p q):p≠q:=λe=>by subst e;rcases h with z | z<;>omega
def Qhg:DF:=λargs R _=>∃m:Int,args=[.pot,.v (.int m)]/\1<=m/\m<=6/\∀(h w:Nat)(f:Nat->Nat->Bool),1<=h->(h:Int)<=m->1<=w->(w:Int)<=m->R (bdD h w (cellsF h w f))
def QpS(cs:List (Int×Int))(r:Int):List (Int×Int):=cs.filter λp=>decide (p.1=r)
def QyF(cells L:List (Int×Int)):List (List (Int×Int)):=(cells.filter λc => !decide (c.2∈L.map (·.2))).map λc=>L++[c]
def Qws(cs:List (Int×Int)):Nat->List (List (Int×Int))
 |0=>[[]]
 |i+1=>Qws cs i++(Qws cs i).flatMap (QyF (QpS cs i))
theorem QsF(ns:List Int)(i:Int):((ns.map Qs).any λe=>QL e (.int i))=decide (i∈ns):=by
 rw[Qjr,J7,Qpu,decide_eq_true_iff];constructor
 ·rintro⟨c,hc,h⟩;have:c=i:=by simpa [QL] using h
  rw[<- this];exact hc
 ·intro h;refine⟨i,h,?_⟩;show(i == i)=true;simp
def QyA(L:List (Int×Int))(p:Int×Int):Bool := !(L.any λq=>(decide (q.2=p.2)&&decide (q.1≥p.1))||(decide (q.1=p.1)&&decide (q.2<p.2)))
theorem QnQ{α β:Type}{g:α->Option β}{p:α->Bool}{k:α->β}:∀{xs:List α},(∀x∈xs,g x=if p x=true then some (k x) else none)->xs.filterMap g=(xs.filter p).map k
 |[],_=>rfl
 |x::xs,h=>by
  have ih:=QnQ (xs:=xs) λy hy=>h y (.tail _ hy)
  by_cases z:p x=true
  ·rw[List.filterMap_cons_some (by rw[h x (.head _),if_pos z]),ih,Jd z];rfl
  ·rw[List.filterMap_cons_none (by rw[h x (.head _),if_neg z]),ih,Je z]
@[irreducible] def QnB:List Qb->(Qb->Prop)->Prop:=Qr3
theorem Qn0:QbU (λxs H Q=>∃i j,xs=[.int i,.int j]/\Q (.int (if j<i then j else i)) H) QnB:=by unfold QnB;exact QlI
theorem Qr2{i j k:Int}{Q:Qb->Prop}(e:(if j<i then j else i)=k)(h:Q (.int k)):QnB [.int i,.int j] Q:=by
 unfold QnB;show Q (.int (if j<i then j else i));rw[e];exact h
theorem Qhv{items:List Qb}{wg wg2:DG}{wt wt2:DT}{wi2:DI}{we:DE}{δ:Sts}{Q:Qb->Prop}(G:Qb->List Qb)(k:Nat)(hl:(items.flatMap G).length<=k)
  (h:∀d∈items,∀(acc:List Qb)(N:List Qb->Prop),acc.length+(G d).length<=k->N (acc++G d)->wg d δ λδ4=>wt δ4 (λb=>if b=true then wi2 δ4 (λitems2=>InR items2 wg2 wt2 we δ4 acc N) XF else N acc) XF)(q:Q (.list (items.flatMap G))) :
  Qiv items wg wt wi2 wg2 wt2 we δ Q:=by
 unfold Qiv;refine⟨λi acc=>acc=(items.take i).flatMap G,by simp,λi acc d hd e=>?_,λacc e=>by rw[e,ZI];exact q⟩;have e:acc=(items.take i).flatMap G:=e;have hs:(items.take (i+1)).flatMap G=(items.take i).flatMap G++G d:=by
  rw[YJ,hd,ZC];simp
 refine h d (Ji hd) acc _ ?_ (by show acc++G d=_;rw[hs,e])
 have h1:(items.flatMap G).length=((items.take (i+1)).flatMap G).length+((items.drop (i+1)).flatMap G).length:=by
  rw[<- QM,<- ZC,List.take_append_drop]
 rw[hs,<- e,QM] at h1;omega
end Rk
namespace Rv
theorem Qtp:isSubtype (.type "range_iterator") (.type "reversed")=pure false:=by rw[isSubtype_type];kernel_rfl
section
variable{prog:Qz}{w:Jf}{A:Jb}{E:Value->Shared->Prop}{s:Shared}
def Qf0(a b:Int):Obj:={ cls:=.type "range_iterator",data:=.fields #[rawInt (a+(JM a b 1 - 1)*1),rawInt (JM a b 1),rawInt (-1)] }
theorem Qji{r:Addr}{j:Int}{t u v:Tok}{Q:Value->Shared->Prop}(hr:Qs7 s.heap r 0 j 1 t u v)(h0 : -1000<=j)(h1:j<=1000)
  (h:Q (.ref s.heap.objs.size) { s with heap:=s.heap.push (Qf0 0 j) }):wpAny (model prog w) A (call (.builtin "range.__reversed__") [.ref r]) Q E s:=by
 refine Zo Qct ⟨_,hr,rfl⟩ F.entry_range_reversed ?_ (F.args_range_reversed_1 _)
 unfold QcY.«range.__reversed__»;refine wpAny_bind (Yd (a:=JP r) rfl ?_);refine wpAny_bind ?_
 unfold Qwi;refine wpAny_bind (JJ hr rfl (x:=.int 0 t) rfl ?_);refine wpAny_bind (Yd (a:=some 0) rfl ?_);refine wpAny_bind (JJ hr rfl (x:=.int j u) rfl ?_);refine wpAny_bind (Yd (a:=some j) rfl ?_);refine wpAny_bind (JJ hr rfl (x:=.int 1 v) rfl ?_);refine wpAny_bind (Yd (a:=some 1) rfl ?_);refine Qm ?_
 dsimp only
 have hz:JM 0 j 1=if 0<j then j else 0:=by rw[QeA];split<;>omega
 have fit:∀x:Int,-2000<=x->x<=2000->Jl x=true:=λx a b=>by
  unfold Jl;simp only[Jy,decide_eq_true_eq];omega
 have hs:(Jl 0&&Jl j&&Jl 1&&Jl (-1)&&Jl (0 - 1)&&Jl (JM 0 j 1))=true:=by
  rw[fit 0 (by decide) (by decide),fit j (by omega) (by omega),fit 1 (by decide) (by decide),fit (-1) (by decide) (by decide),fit (0 - 1) (by decide) (by decide),fit _ (by rw[hz];split<;>omega) (by rw[hz];split<;>omega)];rfl
 rw[hs,if_neg (by decide),if_pos rfl];exact wpAny_bind (JH (Qm ⟨_,rfl,h⟩))
theorem Qn4{r:Addr}{j:Int}{t u v:Tok}{Q:Value->Shared->Prop}(hr:Qs7 s.heap r 0 j 1 t u v)(h0 : -1000<=j)(h1:j<=1000)
  (h:Q (.ref s.heap.objs.size) { s with heap:=s.heap.push (Qf0 0 j) }):codeAny (model prog w) A (.call (.builtin "reversed.__new__") ⟨[.type "reversed",.ref r],[]⟩) (wants Q E) s:=by
 have hT:s.TypeIs (.ref r) "range" := ⟨_,hr,rfl⟩;refine codeAny_of_tree ?_
 show wpAny _ A.in1 (do checkBuiltinCall "reversed.__new__" ⟨[.type "reversed",.ref r],[]⟩;again (.builtin "reversed.__new__" ⟨[.type "reversed",.ref r],[]⟩)) _ _ s;refine wpAny_bind (Yd (F.newCall_reversed_1 _) (Qm ⟨plainId_quiet Qoo _,codeAny_builtin F.entry_reversed_new ?_⟩));rw[Around.under_plainId Qoo _];unfold QcY.«reversed.__new__»;refine wpAny_bind (Yd (newClass_reversed _) ?_)
 dsimp only
 refine wpAny_bind (Yd (a:=()) (by first | rfl | kernel_rfl) ?_);refine wpAny_bind (Yd (a:=()) (by first | rfl | kernel_rfl) ?_)
 try dsimp only
 refine wpAny_bind (wpAny_specialOf hT Qct.lookup ?_)
 try dsimp only
 refine wpAny_bind (Yd (Qct.bind _) ?_)
 try dsimp only
 first
 |rw[if_neg (show ¬((QgQ "range.__reversed__" == Jz)=true) from Qo)]
 |(show wpAny _ _ (if(QgQ "range.__reversed__" == Jz)=true then _ else _) _ _ _;rw[if_neg (show ¬((QgQ "range.__reversed__" == Jz)=true) from Qo)])
 refine wpAny_bind (wpAny_rule ?_);refine wpAny_bind (m:=runValue (.call (.builtin "range.__reversed__") ⟨[.ref r],[]⟩)) (show wpAny _ _ (call (.builtin "range.__reversed__") [.ref r]) _ _ _ from Qji hr h0 h1 ?_)
 first
 |exact Qm h
 |exact wpAny_bind (Qm (Qm h))
theorem QlL{r:Addr}{j:Int}{t u v:Tok}{Q:Value->Shared->Prop}(hr:Qs7 s.heap r 0 j 1 t u v)(h0 : -1000<=j)(h1:j<=1000)
  (h:Q (.ref s.heap.objs.size) { s with heap:=s.heap.push (Qf0 0 j) }):wpAny (model prog w) A (call (.type "reversed") [.ref r]) Q E s:=by
 refine callType_other (U := "range_iterator") (Q₁:=λobj s₁=>obj=.ref s.heap.objs.size/\s₁={ s with heap:=s.heap.push (Qf0 0 j) }) (by decide +kernel) F.create_reversed ⟨_,_,F.mro_reversed⟩ F.made_reversed Qtp (F.typeCall_reversed_1 _) (Qn4 hr h0 h1 ⟨rfl,rfl⟩) ?_
 rintro obj s₁ ⟨rfl,rfl⟩;exact⟨⟨_,Qu _ rfl,rfl⟩,h⟩
end
end Rv
namespace L2
def Itv(n:Nat):It:=⟨λi _=>i<n,λi H x H'=>H'=H/\x=.int ((n:Int) - 1 - i),λi _=>n<=i⟩
theorem QjQ{P:Qz}{w:Jf}{K:PySem.W.Frag}{tg:QR}(it:Addr)(n:Nat):Turn P w K tg (Itv n) [it] it (λi h=>Qiy h it ((n:Int) - 1+(i:Nat)*(-1)) ((n:Int) - (i:Nat)) (-1)) where
 mem:=by simp
 obj:=λi h st b hb=>by
  have e:b=it:=by simpa using hb
  subst e;exact⟨_,st,λv z=>by
   have z':Data.fields _=Data.cell v:=z;cases z'⟩
 keep:=λi h h' st k=>k it (by simp) _ st
 item:=by
  intro X hP hw hK hc i pins s σ H E I hf st hg;subst hP hw hK;obtain⟨f0,f1,f2,f3,f4,f5⟩:=hf it (by simp);have W:=QvW (prog:=X.prog) (w:=X.w) (I.ok.hd hc) it ((n:Int) - 1) (-1) n;refine W.item i s _ _ hg st λv h' tk hv st' kk=>?_
  obtain⟨t,rfl⟩:=hv;have I1:Inv X pins σ H { s with heap:=h',toks:=tk }:=I.turned (λb o hb e=>kk b o (by simpa using hb) e) f0 f1 f3 f4 f5;refine⟨_,rfl,Qli (s:={ s with heap:=h',toks:=tk }) (n := "range_iterator") st' rfl rfl (by decide) ⟨.int ((n:Int) - 1 - i),H,I1,⟨t,?_⟩,⟨rfl,rfl⟩,st',λb hb=>(hf b hb).1⟩⟩;rw[show(n:Int) - 1+(i:Int)*(-1)=(n:Int) - 1 - i by omega]
 done:=by
  intro X hP hw hK hc i pins s σ H E I hf st hg;subst hP hw hK;obtain⟨f0,f1,f2,f3,f4,f5⟩:=hf it (by simp);exact Qob (I.ok.hd hc) st (by have:n<=i:=hg;omega) λh' eb=>⟨rfl,I.turned (t':=s.toks) (λb o hb e=>eb b o hb e) f0 f1 f3 f4 f5⟩
 self:=λ_ _ _ _ _ st h=>Qcq st h
def Qxk(ta:TA):TI:=λσ H R=>ta σ H λvs H1=>∃(r:Addr)(j:Int),vs=[.ref r]/\H1 r=some (.rng 0 j) /\ -1000<=j/\j<=1000/\R (Itv j.toNat) H1
section
variable{X:Cx}{tg:QR}
theorem Qre{a:QR}{ta:TA}{p pos:Pos}(hg:Gl X "reversed")(hm:X.mg "reversed" = none)(ha:PA X [a] ta)(hs:starEach [a] X.env=[(false,eval a X.env)]:=by rfl):PI X tg (.Call (.Name "reversed" p) [a] [] pos) (Qxk ta):=by
 intro pins s σ H R I h;refine Qwd (Qa0 I hg hm boot_reversed (Q5 (thn (ha pos pins s σ H _ I h) λus s1 ⟨vs,H1,I1,r1,q1⟩=>?_) hs rfl));obtain⟨r,j,e,hr,q1,q2,q⟩:=q1;subst e;obtain⟨u,rfl,ru⟩:=vals1 r1;cases(show u=JP r from ru);obtain⟨t1,t2,t3,e⟩:=I1.hok r _ hr;refine Rv.QlL (show Qs7 s1.heap r 0 j 1 t1 t2 t3 from e) q1 q2 ?_
 have hz:JM 0 j 1=((j.toNat:Nat):Int):=by rw[QeA];split<;>omega
 have it0:Qiy (s1.heap.push (Rv.Qf0 0 j)) s1.heap.objs.size (((j.toNat:Nat):Int) - 1+((0:Nat):Int)*(-1)) (((j.toNat:Nat):Int) - ((0:Nat):Int)) (-1):=by
  have:=Qu (h:=s1.heap) (o:=Rv.Qf0 0 j) rfl;unfold Rv.Qf0 at this;rw[hz,show(0:Int)+(((j.toNat:Nat):Int) - 1)*1=((j.toNat:Nat):Int) - 1+((0:Nat):Int)*(-1) by omega] at this;rw[show((j.toNat:Nat):Int) - ((0:Nat):Int)=((j.toNat:Nat):Int) by omega];unfold Rv.Qf0;rw[hz,show(0:Int)+(((j.toNat:Nat):Int) - 1)*1=((j.toNat:Nat):Int) - 1+((0:Nat):Int)*(-1) by omega];exact this
 refine Qcq it0 ?_
 refine⟨s1.heap.objs.size,[s1.heap.objs.size],_,_,H1,rfl,I1.kept (t':=s1.toks) λb o e=>Qc _ e,QjQ _ j.toNat,it0,λb hb=>?_,q⟩;have e:b=s1.heap.objs.size:=by simpa using hb
 subst e;exact I1.fpOk (Qh _) (I1.hok.fresh (Qh _))
end
section
variable{X:Cx}
def Qh0:V->List V->Hp->VK->Prop:=λx vs H Q=>∃l xs y,x=.ref l/\vs=[.int 0,y]/\H l=some (.lst xs)/\xs.length<sizeLine/\Q .non (upd H l (.lst (y::xs)))
theorem QiY:MtM X "list.insert" Qh0:=by
 intro pins s σ H x vs v us Q I rx rv h;obtain⟨l,xs,y,rfl,rfl,hH,hz,q⟩:=h;cases rx;cases rv with
 |cons r0 rv=>
  obtain⟨u,rfl,ru⟩:=Vals.one rv;obtain⟨t,rfl⟩:=r0;obtain⟨z,its,n,r,hl,e⟩:=I.lstM hH;refine Y8 F.slot_list_insert ⟨_,e,rfl⟩ F.entry_list_insert (F.args_list_insert_3 _ _ _) (AutoSeq1.list_insert_list_int_val_1 l its.toArray n 0 t u (by decide) (by rw[Qj];omega)) ⟨e,?_⟩;refine⟨.non,_,I.lset (its':=u::its) hH e (by simp) (.cons ru r) ?_,rfl,q⟩;rw[QZ];omega
end
end L2
namespace Dl
open L2 _root_.Rd Rk
section
variable{X:Cx}{E:XK}{st:ZG}{i:Nat}{we:DE}
def QpT(n:Nat):List Qb:=(Qg n).map λ(i:Nat)=>.int ((n:Int) - 1 - i)
theorem QeW(n:Nat):(QpT n).length=n:=by unfold QpT;rw[Qe,Qv]
theorem QhX{n i:Nat}{d:Qb}(h:(QpT n)[i]? = some d):i<n/\d=.int ((n:Int) - 1 - i):=by
 unfold QpT at h;rw[Qr] at h;by_cases z:i<n
 ·rw[Q9 z] at h;exact⟨z,(Qy h).symm⟩
 ·rw[Q2 (by rw[Qv];omega)] at h;cases h
def Qxt(w:DE):DI:=λδ Q EX=>w δ (λd=>match d with
 |.int j=>(-1000<=j/\j<=1000)/\Q (QpT j.toNat)
 |_=>False) EX
theorem Qxc{A S:Addr->Prop}{n:Nat}{H1:Hp}(h:n<=sizeLine):ItD A S (Itv n) (QpT n) H1:=by
 refine⟨by rw[QeW];exact h,λH2 A' _ _ _=>⟨λi d hd=>?_,?_⟩⟩
 ·obtain⟨hi,rfl⟩:=QhX hd;refine⟨hi,λx H3 hy=>?_⟩;obtain⟨rfl,rfl⟩:=hy;exact⟨Same.refl _,.int _⟩
 ·show n<=(QpT n).length;rw[QeW];exact Qh _
theorem Qp6{m:Md}{tg e:QR}{w:DE}{p p2 pos pos2:Pos}(hg:Gl X "reversed")(hm:X.mg "reversed" = none)(hg2:Gl X "range")(hm2:X.mg "range" = none)(h:QE .P X E e w)(hs:notStar e=true:=by rfl):QI m X E tg (.Call (.Name "reversed" p) [.Call (.Name "range" p2) [e] [] pos2] [] pos) (Qxt w):=⟨by
 refine PI.imp (Qre hg hm (Qcc (Qh7 hg2 hm2 (Qcc h.h JA hs) (by rw[J5 hs];rfl)) JA)) λσ H R _ ⟨F,δ,R',EX,rel,hw,k,o⟩=>?_
 refine⟨F,δ,_,EX,rel,hw,λd hd v H' rel' kp vk=>?_,o⟩;cases d<;>first | exact(show False from hd).elim | skip
 obtain⟨⟨h1,h2⟩,hR⟩:=hd;rw[DP.int vk];exact⟨_,rfl,λr H2 s2 n2 e2=>⟨r,_,rfl,e2,h1,h2,k _ hR _ H2 (rel'.same s2) (kp.trans (Kp.same rel' s2)) (Qxc (Ju (Rk.Z9 (by omega))))⟩⟩⟩
def Qxs(i:Nat)(we:DE):DS:=λD δ=>match δ[i]? with
 |some (.own ds)=>we δ (λd=>ds.length<1000000/\D.nx (δ.set i (.own (d::ds)))) D.ex
 |_=>False
theorem Qrq(h:PS X st (Qmt (tBM X.K "list" Qh0 (Qde i) (Qa5 (tX .D X.K E (dC (.int 0))) (Qa5 (tX .D X.K E we) QjU))))):PS X st (tS X.K E (Qxs i we)):=by
 refine PS.imp h λD σ H ⟨F,δ,DD,rel,hw,en⟩=>?_
 unfold Qxs at hw;split at hw
 ·rename_i ds hd
  obtain⟨x,hx⟩:=rel.lt hd;obtain⟨l,xs,rfl,e,q,f⟩:=rel.sl i _ _ hx hd;have np:=rel.own_pot hd hx;refine⟨.ref l,hx,.inl ⟨rfl,_,SqL.of e⟩,F,δ,(λd=>d=.int 0),DD.ex,rel,rfl,λd hd0 v0 H0 rel0 kp0 vk0=>?_,en.ex⟩;subst hd0;cases vk0;refine⟨F,δ,_,DD.ex,rel0,hw,λd ⟨hl,hn⟩ v H' rel' kp vk=>?_,en.ex⟩;have kk:=kp0.trans kp;have q':=kk.das q;refine⟨l,xs,v,rfl,rfl,kk.1 _ _ np e,QH (by rw[q.length];exact hl) Qgi,?_⟩;obtain⟨r2,st⟩:=rel'.mut hd hx (.cons vk q');exact en.nx.go _ hn _ _ r2 ((Stp.kp kk).trans st)
 ·exact hw.elim
theorem QtM{y:Str}{e e0:QR}{we:DE}{apos cpos pos npos:Pos}(i:Nat)(h0:QE .D X E e0 (dC (.int 0)))(he:QE .D X E e we)(hN:X.N[i]? = some y:=by rfl)(hv:Vis X.env.scope y:=by first | exact Q1 rfl | exact QY (Q1 rfl) | exact QY (QY rfl))(hd:(y == ("__debug__" : Str))=false:=by decide)(hcd:(y == ("__classdict__" : Str))=false:=by decide)(hs0:notStar e0=true:=by rfl)(hst:notStar e=true:=by rfl)(hbase:attributeBase (.Name y npos) "insert" X.env (eval (.Name y npos) X.env)=eval (.Name y npos) X.env:=by rfl)(hfew:((backTo cpos (starEach [e0,e] X.env)).all (λx => !x.1)&&(backToKw cpos (keywordEach [] X.env)).all (λx=>x.1.isSome)&&decide ([e0,e].length+([]:List Qac).length+(if([]:List Qac).isEmpty then 0 else 1)<30))=true:=by rfl)(hline:(apos.endLine == cpos.line)=true:=by rfl)(hsw:swapsWith (.Call (.Attribute (.Name y npos) "insert" apos) [e0,e] [] cpos) none pos.line X.env=pure false:=by rfl):QS X E (.Expr (.Call (.Attribute (.Name y npos) "insert" apos) [e0,e] [] cpos) pos) (Qxs i we):=⟨Qrq (Qg4 (Qg8 PySem.F.plainAttrs_list PySem.F.slot_list_insert PySem.F.type_list_insert QiY (pv i hN hv hd hcd) (Qcc h0.h (Qcc he.h JA hst) hs0) hbase hfew hline (J5 hs0) (by rw[J5 hst];rfl)) hsw)⟩
end
end Dl
namespace Rk
open L2 _root_.Rd Dl Rt
def Qmu(B:Nat->Nat->Int)(t:Nat):List Nat->Nat->Int
 |[],_=>0
 |c::cs,k=>(if t.testBit c=true then 0 else B (t ||| 2^c) k)+Qmu B t cs k
theorem Qdf(B:Nat->Nat->Int)(t c k:Nat):∀cs:List Nat,Qmu B t (cs++[c]) k=Qmu B t cs k+(if t.testBit c=true then 0 else B (t ||| 2^c) k)
 |[]=>by show _+0=0+_;omega
 |d::cs=>by
  show _+Qmu B t (cs++[c]) k=_+Qmu B t cs k+_;rw[Qdf B t c k cs];omega
def Qc6(h:Nat)(F:Nat->Int):List Qb:=(Qg (h+1)).map λ(k:Nat)=>.int (F k)
def QiH(h w:Nat)(B:Nat->Nat->Int):List Qb:=(Qg (2^w)).map λ(t:Nat)=>.list (Qc6 h (B t))
def QeO(B:Nat->Nat->Int)(cols:List Nat)(t k:Nat):Int:=B t k+if k=0 then 0 else Qmu B t cols (k - 1)
def QnY(cs:List (Int×Int))(r:Nat):List Nat:=(QpS cs r).map λp=>p.2.toNat
def Wc(cs:List (Int×Int))(h:Nat):Nat->Nat->Nat->Int
 |0,_,k=>if k=0 then 1 else 0
 |i+1,t,k=>QeO (Wc cs h i) (QnY cs (h - 1 - i)) t k
def Qos(cs:List (Int×Int))(h w:Nat):Nat->List Qb
 |0=>[.list (QiH h w (Wc cs h 0))]
 |i+1=>.list (QiH h w (Wc cs h (i+1)))::Qos cs h w i
def YQ(ns:List Nat):List Qb:=ns.map λ(c:Nat)=>.int (c:Int)
def QgN(cs:List (Int×Int))(h w:Nat):List Qb:=(Qg (min h w+1)).map λ(k:Nat)=>.int (Wc cs h h 0 k)
def Qr1:DF:=λargs R _=>∃(h w:Nat)(cs:List (Int×Int)),args=[.v (bdD h w cs)]/\R (.int ((min h w:Nat):Int))
def Qpx:DF:=λargs R _=>∃(h w:Nat)(B:Nat->Nat->Int)(cols:List Nat)(t:Nat),args=[.v (.list (QiH h w B)),.v (.list (YQ cols)),.v (.int t)]/\t<2^w/\(∀c∈cols,c<w)/\h<=6/\w<=6/\R (.list (Qc6 h (QeO B cols t)))
def QpA:DF:=λargs R _=>∃(h w:Nat)(cs:List (Int×Int)),args=[.v (bdD h w cs)]/\h<=6/\w<=6/\(∀p∈cs,0<=p.2/\p.2<w)/\R (.list (Qos cs h w h))
def Qht:DF:=λargs R _=>∃(h w:Nat)(cs:List (Int×Int)),args=[.v (bdD h w cs)]/\h<=6/\w<=6/\(∀p∈cs,0<=p.2/\p.2<w)/\R (.list (QgN cs h w))
theorem QcC{h k:Nat}{F:Nat->Int}(hk:k<=h):(Qc6 h F)[k]? = some (.int (F k)):=by
 unfold Qc6;rw[Qr,Q9 (by omega)];rfl
theorem Qbv(h:Nat)(F:Nat->Int):(Qc6 h F).length=h+1:=by unfold Qc6;rw[Qe,Qv]
theorem QgW{h w t:Nat}{B:Nat->Nat->Int}(ht:t<2^w):(QiH h w B)[t]? = some (.list (Qc6 h (B t))):=by
 unfold QiH;rw[Qr,Q9 ht];rfl
theorem Qaz{h:Nat}{F G:Nat->Int}(e:∀k,k<=h->F k=G k):Qc6 h F=Qc6 h G:=by
 unfold Qc6;refine JY λk hk=>?_
 rw[e k (by have:=Qw.mp hk;omega)]
theorem QmF{h j:Nat}{F:Nat->Int}{v:Int}(hj:j<=h):(Qc6 h F).set j (.int v)=Qc6 h (λk=>if k=j then v else F k):=by
 apply Z3
 intro k;rw[Qol];by_cases z:j=k
 ·subst z;rw[if_pos rfl,if_pos (by rw[Qbv];omega),QcC hj,if_pos rfl]
 ·rw[if_neg z];by_cases z2:k<=h
  ·rw[QcC z2,QcC z2,if_neg (λe=>z e.symm)]
  ·rw[Q2 (by rw[Qbv];omega),Q2 (by rw[Qbv];omega)]
theorem cut_last(xs:List Qb):Dl.cutD xs none (some (-1))=xs.take (xs.length - 1):=by
 unfold Dl.cutD;rw[HT.QeU,Qs6,Nat.sub_zero]
 congr 1
 have e:HT.sIx xs.length xs.length (some (-1))=((-1:Int)+(xs.length:Int)).toNat:=by unfold HT.sIx;dsimp only;rw[if_pos (by decide)]
 rw[e];omega
theorem QsD:∀t:Fin 64,∀c:Fin 6,QbZ ((t:Nat):Int) (1*2^((c:Nat):Int).toNat)=if(t:Nat).testBit c=true then 2^(c:Nat) else 0:=by decide +kernel
theorem Qvi:∀t:Fin 64,∀c:Fin 6,Qcu ((t:Nat):Int) (1*2^((c:Nat):Int).toNat)=(((t:Nat) ||| 2^(c:Nat):Nat):Int):=by decide +kernel
theorem QwT{t c w:Nat}(ht:t<2^w)(hc:c<w):t ||| 2^c<2^w:=Nat.or_lt_two_pow ht (Nat.pow_lt_pow_right (by decide) hc)
theorem QmH(h:Nat)(F:Nat->Int):Dl.cutD (Qc6 h F) none (some (-1))=(Qg h).map λ(k:Nat)=>Qs (F k):=by
 rw[cut_last,Qbv];unfold Qc6;rw[<- QhI,Yz,QsQ,QfG (QfH h)]
theorem QsG{t c w:Nat}(ht:t<2^w)(hc:c<w)(w6:w<=6):QbZ (t:Int) (1*2^((c:Nat):Int).toNat)=if t.testBit c=true then 2^c else 0:=by
 have h64:2^w<=2^6:=Qcr (by decide) w6;exact QsD ⟨t,by have e:2^6=64:=rfl;omega⟩ ⟨c,by omega⟩
theorem Qub{t c w:Nat}(ht:t<2^w)(hc:c<w)(w6:w<=6):Qcu (t:Int) (1*2^((c:Nat):Int).toNat)=((t ||| 2^c:Nat):Int):=by
 have h64:2^w<=2^6:=Qcr (by decide) w6;exact Qvi ⟨t,by have e:2^6=64:=rfl;omega⟩ ⟨c,by omega⟩
theorem Qe3(w:Nat):(1*2^((w:Nat):Int).toNat:Int)=((2^w:Nat):Int):=by
 rw[Int.one_mul,QD];simp
theorem Qvc(cs:List (Int×Int))(r:Nat)(hb:∀p∈cs,0<=p.2):(cs.map pairD).filterMap (λd=>if(toP d).1=(r:Int) then some (.int (toP d).2) else none)=YQ (QnY cs r):=by
 unfold YQ QnY QpS;rw[Yu,Jo];refine QnQ (p:=λp:Int×Int=>decide (p.1=(r:Int))) λp hp=>?_
 show(if p.1=(r:Int) then some (Qs p.2) else none)=if decide (p.1=(r:Int))=true then some (Qs ((p.2.toNat:Nat):Int)) else none
 rw[show((p.2.toNat:Nat):Int)=p.2 by have:=hb p hp;omega];by_cases z:p.1=(r:Int)
 ·rw[if_pos z,if_pos (decide_eq_true z)]
 ·rw[if_neg z,if_neg (by simpa using z)]
theorem Qss{cs:List (Int×Int)}{w r c:Nat}(hb:∀p∈cs,0<=p.2/\p.2<w)(h:c∈QnY cs r):c<w:=by
 unfold QnY QpS at h;obtain⟨p,hp,rfl⟩:=QF.mp h;have:=hb p (QP.mp hp).1;omega
theorem QhQ(cs:List (Int×Int))(h w:Nat):∀i,(Qos cs h w i).length=i+1
 |0=>rfl
 |i+1=>by show(Qos cs h w i).length+1=_;rw[QhQ cs h w i]
theorem QjT(cs:List (Int×Int))(h w:Nat):∀i,(Qos cs h w i)[0]? = some (.list (QiH h w (Wc cs h i)))
 |0=>rfl
 |_+1=>rfl
theorem QmG(cs:List (Int×Int))(h t:Nat):Qc6 h (Wc cs h 0 t)=Qs 1::Q4 h (.int 0):=by
 apply Z3
 intro k;cases k with
 |zero=>rw[QcC (Js _)];rfl
 |succ k=>
  by_cases z:k+1<=h
  ·rw[QcC z,Yt,ZB,if_pos (by omega)];rfl
  ·rw[Q2 (by rw[Qbv];omega),Yt,ZB,if_neg (by omega)]
theorem QpV(h:Nat):(Q4 h [Qs 0]).flatten=Q4 h (.int 0):=by
 induction h with
 |zero=>rfl
 |succ h ih=>rw[JX,Zy,ih];rfl
theorem QoH{w:Nat}(h:w<=6) : -1000000<=(1*2^((w:Nat):Int).toNat:Int)/\(1*2^((w:Nat):Int).toNat:Int)<=1000000:=by
 have p64:2^w<=64:=Qcr (n:=2) (by decide) h;rw[Qe3];generalize 2^w=x at p64;omega
def sumZ{α:Type}(f:α->Int):List α->Int
 |[]=>0
 |x::xs=>f x+sumZ f xs
theorem Zm{α:Type}{f g:α->Int}:∀{a:List α},(∀x∈a,f x=g x)->sumZ f a=sumZ g a
 |[],_=>rfl
 |x::a,h=>by show f x+_=g x+_;rw[h x (.head _),Zm λy hy=>h y (.tail _ hy)]
theorem Qc4{α:Type}(f g:α->Int):∀a:List α,sumZ (λx=>f x+g x) a=sumZ f a+sumZ g a
 |[]=>rfl
 |x::a=>by show(f x+g x)+sumZ _ a=f x+sumZ f a+(g x+sumZ g a);rw[Qc4 f g a];omega
theorem Y0{α:Type}(f:α->Int)(p:α->Bool):∀a:List α,sumZ f (a.filter p)=sumZ (λx=>if p x=true then f x else 0) a
 |[]=>rfl
 |x::a=>by
  by_cases z:p x=true
  ·rw[Jd z];show f x+_=(if p x=true then f x else 0)+_;rw[if_pos z,Y0 f p a]
  ·rw[Je z];show _=(if p x=true then f x else 0)+_;rw[if_neg z,Y0 f p a,QaV]
theorem sumZ_zero{α:Type}:∀a:List α,sumZ (λ_=>0) a=0
 |[]=>rfl
 |x::a=>by show 0+sumZ _ a=0;rw[sumZ_zero a];rfl
theorem QfS{α:Type}(B:Nat->Nat->Int)(t k:Nat)(g:α->Nat):∀a:List α,Qmu B t (a.map g) k=sumZ (λx=>if t.testBit (g x)=true then 0 else B (t ||| 2^g x) k) a
 |[]=>rfl
 |x::a=>by show _+Qmu B t (a.map g) k=_+_;rw[QfS B t k g a]
end Rk
namespace L2
section
variable{X:Cx}
end
end L2
namespace Dl
open L2 _root_.Rd Rk
end Dl
namespace Rk
open L2 _root_.Rd Dl Rt
def wo(cs:List (Int×Int))(c:Int×Int):List (Int×Int):=cs.filter λp => !decide (p=c)
def Bds(h w:Nat)(cs:List (Int×Int)):Prop:=h<=6/\w<=6/\∀p∈cs,0<=p.1/\p.1<h/\0<=p.2/\p.2<w
theorem Bds.wo{h w:Nat}{cs:List (Int×Int)}(b:Bds h w cs)(c:Int×Int):Bds h w (wo cs c):=⟨b.1,b.2.1,λp hp=>b.2.2 p (QP.mp hp).1⟩
theorem Bds.col{h w:Nat}{cs:List (Int×Int)}(b:Bds h w cs):∀p∈cs,0<=p.2/\p.2<(w:Int):=λp hp=>(b.2.2 p hp).2.2
end Rk
namespace Dl
open L2 _root_.Rd Rk
section
variable{X:Cx}{E:XK}{st:ZG}{we:DE}
end
end Dl
namespace Rk
open L2 _root_.Rd Dl Rt
structure GB (h w:Nat) (cs:List (Int×Int)):Prop where
 bds:Bds h w cs
 srt:cs.Pairwise plt
 few:(Qws cs h).length<=200000
theorem GB.r0{h w:Nat}{cs:List (Int×Int)}(g:GB h w cs):∀p∈cs,0<=p.1:=λp hp=>(g.bds.2.2 p hp).1
theorem GB.rh{h w:Nat}{cs:List (Int×Int)}(g:GB h w cs):∀p∈cs,p.1<(h:Int):=λp hp=>(g.bds.2.2 p hp).2.1
end Rk
namespace L2
section
variable{X:Cx}
end
end L2
namespace Dl
open L2 _root_.Rd Rk Rt
end Dl
namespace Rk
open L2 _root_.Rd Dl Rt
def wt(cs L:List (Int×Int)):Nat:=(cs.filter (QyA L)).length
end Rk
namespace L2
open _root_.Rd
section
variable{X:Cx}
end
end L2
namespace Dl
open L2 _root_.Rd Rk Rt
section
variable{X:Cx}{E:XK}
end
end Dl
namespace Rk
open L2 _root_.Rd Dl Rt
def wo1(C:List Nat)(c:Nat):List Nat:=C.filter λd => !decide (d=c)
def Pf(f:Nat->Nat->Bool):List Nat->List Nat->Nat->Int
 |[],_,k=>if k=0 then 1 else 0
 |r::R,C,k=>Pf f R C k+(if k=0 then 0 else sumZ (λc=>Pf f R (wo1 C c) (k - 1)) (C.filter (f r)))
theorem Qhd{C:List Nat}{c d:Nat}:d∈wo1 C c↔d∈C/\d≠c:=by
 unfold wo1;rw[QP,QdS,decide_eq_false_iff_not]
theorem QoS{C:List Nat}(h:C.Nodup)(c:Nat):(wo1 C c).Nodup:=Yw _ h
theorem Qta{C:List Nat}{c:Nat}(h:c∉C):wo1 C c=C:=by
 unfold wo1;rw[ZD];intro d hd;rw[decide_eq_false (λe=>h (by rw[<- e];exact hd))];rfl
theorem Qk8:∀{C:List Nat}{c:Nat},C.Nodup->c∈C->(wo1 C c).length+1=C.length
 |d::C,c,nd,hc=>by
  have nd:=JI.mp nd;by_cases z:d=c
  ·subst z;have e:wo1 (d::C) d=wo1 C d:=by unfold wo1;rw[Je (by simp)]
   rw[e,Qta nd.1];rfl
  ·have e:wo1 (d::C) c=d::wo1 C c:=by unfold wo1;rw[Jd (by simp[z])]
   have hc:c∈C:=by
    rcases Qq.mp hc with y | y
    ·exact absurd y.symm z
    ·exact y
   rw[e,QZ,Qk8 nd.2 hc];rfl
theorem QfR{α β:Type}(g:α->β->Int):∀(C:List α)(D:List β),sumZ (λc=>sumZ (g c) D) C=sumZ (λd=>sumZ (λc=>g c d) C) D
 |[],D=>(sumZ_zero D).symm
 |c::C,D=>by
  show sumZ (g c) D+sumZ _ C=sumZ (λd=>g c d+sumZ (λc=>g c d) C) D;rw[QfR g C D,Qc4]
theorem QpJ{α:Type}(F:α->Int)(p q:α->Bool)(a:List α):sumZ F ((a.filter p).filter q)=sumZ (λx=>if p x=true then(if q x=true then F x else 0) else 0) a:=by
 rw[Y0 F q,Y0 _ p]
theorem Qfo(f:Nat->Nat->Bool):∀(R C:List Nat),Pf f R C 0=1
 |[],_=>rfl
 |r::R,C=>by
  show Pf f R C 0+0=1;rw[Qfo f R C];rfl
theorem QhH(f:Nat->Nat->Bool):∀(R C:List Nat)(k:Nat),C.Nodup->C.length<k->Pf f R C k=0
 |[],_,k,_,h=>by
  show(if k=0 then(1:Int) else 0)=0;rw[if_neg (by omega)]
 |r::R,C,k,nd,h=>by
  show Pf f R C k+(if k=0 then 0 else _)=0;rw[QhH f R C k nd h,if_neg (by omega),Zm (g:=λ_=>0) λc hc=>?_,sumZ_zero]
  ·rfl
  ·have:=Qk8 nd (QP.mp hc).1;exact QhH f R _ (k - 1) (QoS nd c) (by omega)
def Qdq(f:Nat->Nat->Bool):Nat->Nat->Bool:=λr c => !f r c
def QiR(h:Nat):Nat->List Nat
 |0=>[]
 |i+1=>(h - 1 - i)::QiR h i
def Qfh(w t:Nat):List Nat:=(Qg w).filter λc => !t.testBit c
theorem QnX(w t c:Nat):Qfh w (t ||| 2^c)=wo1 (Qfh w t) c:=by
 unfold Qfh wo1;rw[Qmi];refine YL λd _=>?_
 rw[Nat.testBit_or,Nat.testBit_two_pow,Bool.not_or,Bool.and_comm]
 congr 1
 rw[show decide (c=d)=decide (d=c) from decide_eq_decide.mpr ⟨λe=>e.symm,λe=>e.symm⟩]
theorem Qjb(w:Nat):Qfh w 0=Qg w:=by
 unfold Qfh;rw[ZD];intro c _;simp
theorem Qoy(w:Nat)(f:Nat->Nat->Bool){r:Nat}:∀h,r<h->QpS (cellsF h w f) r=QbC r w f
 |h+1,hr=>by
  unfold QpS;rw[ZN,QaG];have no:∀(q:Nat)(L:List (Int×Int)),(∀p∈L,p.1≠(r:Int))->L.filter (λp=>decide (p.1=(r:Int)))=[]:=λq L hL=>by
   rw[List.filter_eq_nil_iff];intro p hp;rw[decide_eq_false (hL p hp)];exact Qo
  by_cases z:r<h
  ·have ih:=Qoy w f h z;unfold QpS at ih;rw[ih,no 0 _ λp hp=>?_,ZV];obtain⟨c,_,_,rfl⟩:=Qcg.mp hp;show(h:Int)≠r;omega
  ·have e:r=h:=by omega
   subst e;rw[no 0 (cellsF r w f) λp hp=>?_,QsR,ZD.mpr λp hp=>?_]
   ·obtain⟨c,_,_,rfl⟩:=Qcg.mp hp;exact decide_eq_true rfl
   ·have:=(YD hp).2.1;omega
theorem Qvd{h w r:Nat}(f:Nat->Nat->Bool)(hr:r<h):QnY (cellsF h w f) r=(Qg w).filter (f r):=by
 unfold QnY;rw[Qoy w f h hr];unfold QbC;rw[Jo]
 conv=>rhs;rw[<- List.map_id ((Qg w).filter (f r))]
 exact JY λc _=>by show((c:Int)).toNat=c;omega
theorem Qxx{h w:Nat}(f:Nat->Nat->Bool):∀(i t k:Nat),i<=h->Wc (cellsF h w f) h i t k=Pf f (QiR h i) (Qfh w t) k
 |0,t,k,_=>rfl
 |i+1,t,k,hi=>by
  show Wc (cellsF h w f) h i t k+(if k=0 then 0 else Qmu (Wc (cellsF h w f) h i) t (QnY (cellsF h w f) (h - 1 - i)) (k - 1))=Pf f (QiR h i) (Qfh w t) k+(if k=0 then 0 else sumZ (λc=>Pf f (QiR h i) (wo1 (Qfh w t) c) (k - 1)) ((Qfh w t).filter (f (h - 1 - i))));rw[Qxx f i t k (by omega)]
  congr 1
  by_cases z:k=0
  ·rw[if_pos z,if_pos z]
  ·rw[if_neg z,if_neg z,Qvd f (by omega)];have e:=QfS (Wc (cellsF h w f) h i) t (k - 1) (λc:Nat=>c) ((Qg w).filter (f (h - 1 - i)));rw[List.map_id'] at e;rw[e,Y0];show _=sumZ _ (((Qg w).filter λc => !t.testBit c).filter (f (h - 1 - i)));rw[QpJ];refine Zm λc _=>?_
   cases hb:t.testBit c with
   |true=>simp
   |false=>
    rw[if_neg Qo,if_pos (show(!false)=true from rfl),Qxx f i (t ||| 2^c) (k - 1) (by omega),QnX]
theorem Qfn{h w:Nat}(f:Nat->Nat->Bool)(k:Nat):Wc (cellsF h w f) h h 0 k=Pf f (QiR h h) (Qg w) k:=by
 rw[Qxx f h 0 k (Qh _),Qjb]
def oth(n:Nat)(o:List Nat):List Nat:=(Qg n).filter λx => !decide (x∈o)
def YH(n:Nat):Nat->List (List Nat)
 |0=>[[]]
 |i+1=>(YH n i).flatMap λo=>(oth n o).map λx=>o++[x]
theorem Z5{n:Nat}:∀{i:Nat}{o:List Nat},o∈YH n i->o.length=i
 |0,o,h=>by rw[JS.mp h];rfl
 |i+1,o,h=>by
  obtain⟨p,hp,ho⟩:=J8.mp h;obtain⟨x,_,rfl⟩:=QF.mp ho;rw[QM,Z5 hp];rfl
theorem Qe7(n:Nat)(o:List Nat):(oth n o).length<=n:=by
 unfold oth;exact QJ (QbX _ _) (by rw[Qv];exact Qh _)
theorem QrG(n:Nat):oth n []=Qg n:=by
 unfold oth;rw[ZD];intro x _;simp
def tNn(o:List Nat):Qb:=.tuple (YQ o)
def QwS:DF:=λargs R _=>∃(n:Nat)(o:List Nat),args=[.v (.int n),.v (tNn o)]/\n<=6/\R (.list (YQ (oth n o)))
def Qkd:DF:=λargs R _=>∃(h w:Nat)(f:Nat->Nat->Bool),args=[.v (bdD h w (cellsF h w f))]/\h<=6/\w<=6/\R (bdD h w (cellsF h w (Qdq f)))
theorem QcJ{n:Nat}:∀{i:Nat}{o:List Nat},o∈YH n i->∀x∈o,x<n
 |0,o,h,x,hx=>by rw[JS.mp h] at hx;cases hx
 |i+1,o,h,x,hx=>by
  obtain⟨p,hp,ho⟩:=J8.mp h;obtain⟨y,hy,rfl⟩:=QF.mp ho;rcases Ys.mp hx with z | z
  ·exact QcJ hp x z
  ·rw[JS.mp z];exact Qw.mp (QP.mp hy).1
theorem QnT(ns:List Int):QL (.list (ns.map Qs)) (.list (ns.map Qs))=true:=by
 show Qa7 (ns.map Qs) (ns.map Qs)=true;induction ns with
 |nil=>rfl
 |cons x ns ih=>
  show(QL (.int x) (.int x)&&Qa7 (ns.map Qs) (ns.map Qs))=true;rw[ih,Bool.and_true];show decide (x=x)=true;exact decide_eq_true rfl
theorem Qi9(ns:List Int):(Zz (ns.map Qs)).depth<=50:=by
 have:∀ns:List Int,Ja (ns.map Qs)<=1:=λns=>by
  induction ns with
  |nil=>decide
  |cons x ns ih=>
   show max (Zk (.int x)) (Ja (ns.map Qs))<=1;have:Zk (.int x)<=1:=by unfold Zk;decide
   omega
 have:=this ns;unfold Zk;omega
end Rk
namespace HT
section
open PySem.SeqAt
open PySem.AutoSeq1 (wpAny_loadPart')
open PySem.MeetsSeq PySem.MeetsSeq2 PySem.MeetsSeq3
end
section
variable{prog:Qz}{w:Jf}{A:Jb}{E:Value->Shared->Prop}{s:Shared}
end
end HT
namespace L2
end L2
namespace Rk
open L2 _root_.Rd Dl Rt
theorem Qgr{A:Addr->Prop}{H:Hp}(dm:∀a,A a->∃xs,H a=some (.lst xs)):∀{ys:List V}{M:List (Int×Int)},Dats H ys (M.map pairD)->DAs A H ys (M.map pairD)
 |[],[],_=>.nil
 |y::ys,p::M,.cons q qs=>by
  refine .cons ?_ (Qgr dm qs)
  cases q with
  |tup e q2=>
   refine .tup (λz=>?_) e ?_
   ·obtain⟨xs,e2⟩:=dm _ z;rw[e] at e2;cases e2
   ·cases q2 with
    |cons a b=>
     cases b with
     |cons b c=>cases c;cases a;cases b;exact .cons (.int _) (.cons (.int _) .nil)
@[irreducible] def sortPD:List Qb->(Qb->Prop)->Prop:=λds Q=>∃L:List (Int×Int),ds=[.list (L.map pairD)]/\L.Nodup/\L.length<64/\(∀p∈L,0<=p.2/\p.2<64)/\∀M:List (Int×Int),M.Perm L->M.Pairwise plt->Q (.list (M.map pairD))
theorem sortP_of{L:List (Int×Int)}{Q:Qb->Prop}(h1:L.Nodup)(h2:L.length<64)(h3:∀p∈L,0<=p.2/\p.2<64)(k:∀M:List (Int×Int),M.Perm L->M.Pairwise plt->Q (.list (M.map pairD))):sortPD [.list (L.map pairD)] Q:=by
 unfold sortPD;exact⟨L,rfl,h1,h2,h3,k⟩
theorem cd_sortP:QbU Qkh sortPD:=λA P H vs ds R Q ln dm q h k=>by
 unfold sortPD at h;obtain⟨L,rfl,h1,h2,h3,hR⟩:=h;obtain⟨v,rfl,hv⟩:=pd1 q;obtain⟨l,xs,rfl,e,qq⟩:=hv.list;refine⟨l,xs,L,rfl,e,Qam _ _ (QaB L) qq,h1,h2,h3,λt ys M H2 s n e2 dts pm pw=>?_⟩;have dm2:∀a,A a->∃xs,H2 a=some (.lst xs):=λa z=>by obtain⟨xs,e⟩:=dm a z;exact⟨xs,s _ _ e⟩
 have pl:M.Pairwise plt:=by
  have hb:∀p∈M,0<=p.2/\p.2<64:=λp hp=>h3 p (pm.mem_iff.mp hp)
  refine Qab (λ{a b} ha hb' hc=>?_) pw;have:=hb a ha;have:=hb b hb';have hc:64*a.1+a.2<64*b.1+b.2:=hc;show a.1<b.1∨(a.1=b.1/\a.2<b.2);omega
 refine k _ (hR M pm pl) _ H2 s (.lst (λz=>?_) e2 (Qgr dm2 dts)) (YI n);obtain⟨xs,e⟩:=dm t z;rw[n] at e;cases e
end Rk
namespace Dl
open L2 _root_.Rd Rk Rt
end Dl
namespace Rk
open L2 _root_.Rd Dl Rt
def tF(f:Nat->Nat->Bool):Nat->Nat->Bool:=λr c=>f c r
theorem QjI{c:Nat}{C:List Nat}(h:c∉C):wo1 (c::C) c=C:=by
 have e:wo1 (c::C) c=wo1 C c:=by unfold wo1;rw[Je (by simp)]
 rw[e,Qta h]
theorem QjJ{c d:Nat}{C:List Nat}(h:c≠d):wo1 (c::C) d=c::wo1 C d:=by
 unfold wo1;rw[Jd (by simp[h])]
theorem Qtb{c d:Nat}{C:List Nat}(h:c∉C):c∉wo1 C d:=λz=>h (Qhd.mp z).1
theorem Ql0(f:Nat->Nat->Bool):∀(R:List Nat)(c:Nat)(C:List Nat)(k:Nat),R.Nodup->c∉C->Pf f R (c::C) k=Pf f R C k+(if k=0 then 0 else sumZ (λr=>Pf f (wo1 R r) C (k - 1)) (R.filter λr=>f r c))
 |[],c,C,k,_,_=>by
  show(if k=0 then(1:Int) else 0)=(if k=0 then 1 else 0)+(if k=0 then 0 else 0);split<;>rfl
 |r::R,c,C,k,nd,hc=>by
  have nd:=JI.mp nd;by_cases zk:k=0
  ·subst zk;rw[Qfo,Qfo];rfl
  ·obtain⟨k,rfl⟩:∃j,k=j+1:=⟨k - 1,by omega⟩
   show Pf f R (c::C) (k+1)+(if k+1=0 then 0 else sumZ (λd=>Pf f R (wo1 (c::C) d) (k+1 - 1)) ((c::C).filter (f r)))=Pf f R C (k+1)+(if k+1=0 then 0 else sumZ (λd=>Pf f R (wo1 C d) (k+1 - 1)) (C.filter (f r)))+(if k+1=0 then 0 else sumZ (λq=>Pf f (wo1 (r::R) q) C (k+1 - 1)) ((r::R).filter λq=>f q c));rw[if_neg zk,if_neg zk,if_neg zk,Yz,Ql0 f R c C (k+1) nd.2 hc,if_neg zk,Yz];have a1:sumZ (λd=>Pf f R (wo1 (c::C) d) k) ((c::C).filter (f r))=(if f r c=true then Pf f R C k else 0)+sumZ (λd=>Pf f R (wo1 C d) k+(if k=0 then 0 else sumZ (λq=>Pf f (wo1 R q) (wo1 C d) (k - 1)) (R.filter λq=>f q c))) (C.filter (f r)):=by
    have tl:sumZ (λd=>Pf f R (wo1 (c::C) d) k) (C.filter (f r))=sumZ (λd=>Pf f R (wo1 C d) k+(if k=0 then 0 else sumZ (λq=>Pf f (wo1 R q) (wo1 C d) (k - 1)) (R.filter λq=>f q c))) (C.filter (f r)):=Zm λd hd=>by
     have hd:=(QP.mp hd).1;rw[QjJ (λe=>hc (by rw[e];exact hd)),Ql0 f R c (wo1 C d) k nd.2 (Qtb hc)]
    by_cases z:f r c=true
    ·rw[Jd z,if_pos z,<- tl];show Pf f R (wo1 (c::C) c) k+_=_;rw[QjI hc]
    ·rw[Je z,if_neg z,QaV,tl]
   have a2:sumZ (λq=>Pf f (wo1 (r::R) q) C k) ((r::R).filter λq=>f q c)=(if f r c=true then Pf f R C k else 0)+sumZ (λq=>Pf f (wo1 R q) C k+(if k=0 then 0 else sumZ (λd=>Pf f (wo1 R q) (wo1 C d) (k - 1)) (C.filter (f r)))) (R.filter λq=>f q c):=by
    have tl:sumZ (λq=>Pf f (wo1 (r::R) q) C k) (R.filter λq=>f q c)=sumZ (λq=>Pf f (wo1 R q) C k+(if k=0 then 0 else sumZ (λd=>Pf f (wo1 R q) (wo1 C d) (k - 1)) (C.filter (f r)))) (R.filter λq=>f q c):=Zm λq hq=>by
     have hq:=(QP.mp hq).1;rw[QjJ (λe=>nd.1 (by rw[e];exact hq))];rfl
    by_cases z:f r c=true
    ·rw[Jd (p:=λq=>f q c) z,if_pos z,<- tl];show Pf f (wo1 (r::R) r) C k+_=_;rw[QjI nd.1]
    ·rw[Je (p:=λq=>f q c) z,if_neg z,QaV,tl]
   rw[a1,a2,Qc4,Qc4];have sw:sumZ (λd=>if k=0 then 0 else sumZ (λq=>Pf f (wo1 R q) (wo1 C d) (k - 1)) (R.filter λq=>f q c)) (C.filter (f r))=sumZ (λq=>if k=0 then 0 else sumZ (λd=>Pf f (wo1 R q) (wo1 C d) (k - 1)) (C.filter (f r))) (R.filter λq=>f q c):=by
    by_cases z:k=0
    ·rw[Zm (g:=λ_=>0) λ_ _=>if_pos z,sumZ_zero,Zm (g:=λ_=>0) λ_ _=>if_pos z,sumZ_zero]
    ·rw[Zm λd _=>if_neg z,QfR];exact(Zm λq _=>if_neg z).symm
   rw[sw];omega
theorem QdM(f:Nat->Nat->Bool):∀(C R:List Nat)(k:Nat),C.Nodup->R.Nodup->Pf f R C k=Pf (tF f) C R k
 |[],R,k,_,_=>by
  show _=if k=0 then(1:Int) else 0
  by_cases z:k=0
  ·subst z;rw[Qfo];rfl
  ·rw[if_neg z,QhH f R [] k .nil (by show 0<k;omega)]
 |c::C,R,k,nC,nR=>by
  have nC:=JI.mp nC;rw[Ql0 f R c C k nR nC.1,QdM f C R k nC.2 nR];show _=Pf (tF f) C R k+(if k=0 then 0 else sumZ (λd=>Pf (tF f) C (wo1 R d) (k - 1)) (R.filter (tF f c)))
  congr 1
  by_cases z:k=0
  ·rw[if_pos z,if_pos z]
  ·rw[if_neg z,if_neg z];exact Zm λr _=>QdM f C (wo1 R r) (k - 1) nC.2 (QoS nR r)
theorem QeV:∀n:Fin 7,QiR n n=Qg n:=by decide +kernel
def iN(o:List Nat):List Int:=o.map λ(x:Nat)=>(x:Int)
theorem QaA{n:Nat}{o:List Nat}(h:o∈YH n n):o.Perm (Qg n):=by
 have nd:∀{i:Nat}{o:List Nat},o∈YH n i->o.Nodup:=λ{i}=>by
  induction i with
  |zero=>intro o h;rw[JS.mp h];exact .nil
  |succ i ih=>
   intro o h;obtain⟨p,hp,ho⟩:=J8.mp h;obtain⟨x,hx,rfl⟩:=QF.mp ho;refine Qba.mpr ⟨ih hp,by simp,λa ha b hb e=>?_⟩;rw[JS.mp hb] at e;have:=(QP.mp hx).2;rw[QdS,decide_eq_false_iff_not] at this;exact this (by rw[<- e];exact ha)
 have p1:o.Perm ((Qg n).filter λx=>decide (x∈o)):=(QaD (nd h) (Yw _ JK)).mpr λx=>by
  rw[QP,Qw];exact⟨λhx=>⟨QcJ h x hx,decide_eq_true hx⟩,λhx=>of_decide_eq_true hx.2⟩
 have l1:=p1.length_eq;have l2:=Qdc (λx=>decide (x∈o)) (l:=Qg n);rw[Qv,Qag,<- l1,Z5 h] at l2;have l3:(Qg n).countP (λx=>decide (¬decide (x∈o)=true))=0:=by omega
 have al:(Qg n).filter (λx=>decide (x∈o))=Qg n:=ZD.mpr λx hx=>by
  have:=List.countP_eq_zero.mp l3 x hx
  simpa using this
 rw[al] at p1;exact p1
theorem Qn6(o:List Nat):Qbq (YQ o)=some (iN o):=by
 have:YQ o=(iN o).map Qs:=by unfold YQ iN;rw[Jo];rfl
 rw[this];exact Qjj _
end Rk
namespace Rm
open AutoSeq1 (wpAny_loadPart')
open MeetsSeq
theorem Qcv{M:Qs4}{A:Jb}{E:Value->Shared->Prop}{s:Shared}{β:Type}(f:Nat->β->Sem (ForInStep β))(I:List Nat->β->Shared->Prop)(Q:β->Shared->Prop)
  (turn:∀x rest b s,I (x::rest) b s->wpAny M A (f x b) (λr s'=>match r with | .yield b'=>I rest b' s' | .done b'=>Q b' s') E s)
  (fin:∀b s,I [] b s->Q b s)(xs:Std.Legacy.Range)(b:β)(h:I (Qfs xs.start xs.size xs.step) b s):wpAny M A (forIn xs b f) Q E s:=by
 rw[QsM];exact wpAny_forIn_list f I Q turn fin _ b h
theorem QeL(l:Addr)(items:Array Value)(n:Nat)(dd:Option Addr)(sl:Array (Option Value))(x:Value)(e:Value->Bool)(he:∀y,y∈items->EqGives y x (e y))(j:Nat)(hj:j<items.size)
  (hit:e items[j]=true)(hno:∀m (hm:m<items.size),m<j->e items[m]=false) :
  Meets (QcY.«tuple.index» ⟨[.ref l,x],[]⟩)
   (λ_ R s=>s.heap.get? l=some { cls:=.type "tuple",dict:=dd,data:=.seq items n,slots:=sl }/\R (.ok (.ret (.int j s.toks))) { s with toks:=s.toks+1 }):=
 .of_wp λprog w A R s h=>by
  obtain⟨hp,g,d,tk,os⟩:=s;obtain⟨hl,h⟩:=h
  wp_walk using Ye hl,Qcv _ (λrest b s'=>b.1=none/\s'=⟨hp,g,d,tk,os⟩/\∃i,i<=j/\rest=Qfs i (items.size - i)) _
  case turn=>
   rintro i rest b s' ⟨hb,rfl,i',hi,er⟩;obtain⟨k,hk⟩:∃k,items.size - i'=k+1:=⟨items.size - i' - 1,by omega⟩
   rw[hk,Qpq] at er;injection er with e1 e2
   subst e1;have hlt:i<items.size:=by omega
   rw[show items[i]? = some items[i] from JZ hlt];refine wpAny_bind (he _ (Array.getElem_mem hlt) prog w _ _ _ _ ?_);by_cases z:i=j
   ·subst z;rw[hit]
    wp_walk
    exact⟨_,rfl,h⟩
   ·rw[hno i hlt (by omega)]
    wp_walk
    exact⟨rfl,rfl,i+1,by omega,by rw[e2,show items.size - (i+1)=k by omega]⟩
  case fin=>
   rintro b s' ⟨hb,rfl,i',hi,er⟩;have:=congrArg Qfw er;rw[List.length_range'] at this;simp at this;omega
  case h=>
   refine⟨rfl,rfl,0,Js _,?_⟩;show Qfs 0 ((min items.size items.size - 0+1 - 1) / 1) 1=_;rw[Nat.min_self];simp
end Rm
namespace L2
open _root_.Rd
theorem Qdx:∀{vs:List Value}{ns:List Int},QbB vs ns->∀(m:Nat)(v:Value),vs[m]? = some v->∃n t,ns[m]? = some n/\v=.int n t
 |_,_,.nil,m,v,h=>by simp at h
 |_,_,.cons n t h,0,v,e=>by simp at e;subst e;exact⟨n,t,rfl,rfl⟩
 |_,_,.cons n t h,m+1,v,e=>Qdx h m v (by simpa using e)
theorem Qgl{vs:List Value}{ns:List Int}{k:Int}(h:QbB vs ns)(m:Nat)(hm:m<vs.length):isInt k vs[m]=decide (ns[m]? = some k):=by
 obtain⟨n,t,e1,e2⟩:=Qdx h m vs[m] (Qf hm);rw[e2,e1];show(n == k)=_;rw[J7];simp
theorem Qhk{vs:List Value}{ns:List Int}(h:QbB vs ns):vs.length=ns.length:=by
 induction h with
 |nil=>rfl
 |cons n t h ih=>rw[QZ,QZ,ih]
section
variable{X:Cx}
def tTM(r:V->List V->Hp->VK->Prop)(to:TE)(t:TA):TE:=λσ H Q=>to σ H λx H1=>(∃p xs,x=.ref p/\H1 p=some (.tup xs))/\t σ H1 λxs H2=>r x xs H2 Q
theorem QwK{o e:QR}{es:List QR}{to:TE}{t:TA}{name:Str}{apos cpos:Pos}{id:String}{r:V->List V->Hp->VK->Prop}(slot:Slot "tuple" name id)(hty:typeOf (.builtin id)=pure (.type "method_descriptor"))(hm:MtR X id r)(ho:PE X o to)(ha:PA X (e::es) t)
  (hbase:attributeBase o name X.env (eval o X.env)=eval o X.env:=by rfl)
  (hfew:((backTo cpos (starEach (e::es) X.env)).all (λx => !x.1)&&(backToKw cpos (keywordEach [] X.env)).all (λx=>x.1.isSome)
   && decide ((e::es).length+([]:List Qac).length+(if([]:List Qac).isEmpty then 0 else 1)<30))=true:=by rfl)
  (hline:(apos.endLine == cpos.line)=true:=by rfl) (hs:starEach (e::es) X.env=(false,eval e X.env)::starEach es X.env:=by rfl) (hplain:(backTo cpos (starEach es X.env)).any (·.1)=false:=by rfl) :
  PE X (.Call (.Attribute o name apos) (e::es) [] cpos) (tTM r to t):=by
 intro pins s σ H Q I h;refine Qoe hbase hfew hline rfl (thn (ho pins s σ H _ I h) λv s1 ⟨x,H1,I1,r1,ty,q1⟩=>?_);obtain⟨p,xs,rfl,hp⟩:=ty;cases r1;obtain⟨_,its,rv,ob,e1,e2,e3,_⟩:=I1.hok p _ hp;refine⟨"tuple",id,PySem.F.plainAttrs_tuple,slot,hty,⟨ob,e1,e2⟩,λa ea=>?_,?_⟩
 ·cases ea;exact⟨ob,e1,e3⟩
 have hA:=ha cpos pins s1 σ H1 _ I1 q1;rw[hs] at hA ⊢;refine QhM (by show(false||(backTo cpos (starEach es X.env)).any (·.1))=false;rw[hplain]<;>rfl) (Qb4 ?_);exact thn hA λus s2 ⟨vs,H2,I2,r2,q2⟩=>hm pins s2 σ H2 (.ref p) vs _ us Q I2 (show RelV (.ref p) (.ref p) from rfl) r2 q2
def Qwz:V->List V->Hp->VK->Prop:=λx vs H Q=>∃l ns k j,x=.ref l/\vs=[.int k]/\H l=some (.tup ((ns:List Int).map V.int))/\ns[j]? = some k/\(∀m,m<j->ns[m]? ≠ some k)/\Q (.int (j:Nat)) H
theorem Qk3:MtR X "tuple.index" Qwz:=by
 intro pins s σ H x vs v us Q I rx rv h;obtain⟨l,ns,k,j,rfl,rfl,hH,hj,hno,q⟩:=h;cases rx;obtain⟨u,rfl,ru⟩:=rv.one;obtain⟨t,rfl⟩:=ru;obtain⟨hz,its,r,⟨cls,dd,data,sl⟩,e,hc,_,n,hd⟩:=I.hok l _ hH;cases(show cls=.type "tuple" from hc);cases(show data=.seq its.toArray n from hd);have hi:QbB its ns:=intsAre_of r;have li:=Qhk hi;have hjl:j<its.length:=by rw[li];exact(Jm.mp hj).1
 refine Y8 F.slot_tuple_index ⟨_,e,rfl⟩ F.entry_tuple_index (F.args_tuple_index_2 _ _) (Rm.QeL l its.toArray n dd sl (.int k t) (isInt k) (λy hy=>eq_isInt k t hi y (Y4.mp hy)) j (by rw[Qj];exact hjl) ?_ ?_) ⟨e,?_⟩
 ·show isInt k its[j]=true;rw[Qgl hi j hjl,hj];simp
 ·intro m hm hlt;rw[Qj] at hm;show isInt k its[m]=false;rw[Qgl hi m hm];exact decide_eq_false (hno m hlt)
 ·exact⟨.int _,H,I.kept λ_ _ e=>e,⟨_,rfl⟩,q⟩
end
end L2
namespace Dl
open L2 _root_.Rd Rk Rt
section
variable{X:Cx}{E:XK}{st:ZG}{i:Nat}{we:DE}
def Qxq(wa wb:DE):DE:=λδ Q EX=>wa δ (λd1=>match d1 with
 |.tuple ds=>wb δ (λd2=>∃(ns:List Int)(k:Int)(j:Nat),ds=ns.map Qs/\d2=.int k/\ns[j]? = some k/\(∀m,m<j->ns[m]? ≠ some k)/\Q (.int (j:Nat))) EX
 |_=>False) EX
theorem QtO{o e:QR}{wo we:DE}{apos cpos:Pos}(ho:QE .P X E o wo)(he:QE .P X E e we)(hst:notStar e=true:=by rfl)(hbase:attributeBase o "index" X.env (eval o X.env)=eval o X.env:=by rfl)(hfew:((backTo cpos (starEach [e] X.env)).all (λx => !x.1)&&(backToKw cpos (keywordEach [] X.env)).all (λx=>x.1.isSome)&&decide ([e].length+([]:List Qac).length+(if([]:List Qac).isEmpty then 0 else 1)<30))=true:=by rfl)(hline:(apos.endLine == cpos.line)=true:=by rfl):QE .F X E (.Call (.Attribute o "index" apos) [e] [] cpos) (Qxq wo we):=
 ⟨PE.imp (QwK PySem.F.slot_tuple_index PySem.F.type_tuple_index Qk3 ho.h (Qcc he.h JA hst) hbase hfew hline (J5 hst) rfl) λσ H Q ⟨F,δ,R,EX,rel,hw,k,o⟩=>by
  refine⟨F,δ,_,EX,rel,hw,λd1 h1 x H1 rel1 kp1 x1=>?_,o⟩;cases d1<;>first | exact(show False from h1).elim | skip
  rename_i ds
  obtain⟨l,xs,rfl,e,q⟩:=DP.tuple x1;refine⟨⟨l,xs,rfl,e⟩,F,δ,_,EX,rel1,h1,λd2 h2 y H2 rel2 kp2 y2=>?_,o⟩;obtain⟨ns,kk,j,rfl,rfl,hj,hno,hR⟩:=h2;obtain⟨l',xs',e0,e',q'⟩:=DP.tuple (kp2.dp x1);cases e0;rw[Qc9 q'] at e';cases y2.int;exact⟨l,ns,kk,j,rfl,rfl,e',hj,hno,k _ hR _ H2 rel2 (kp1.trans kp2) ⟨.int _,λl e1 e2=>nomatch e1⟩⟩⟩
end
end Dl
namespace Rk
open L2 _root_.Rd Dl Rt
theorem QrH{w:Nat}{t:List Nat}(nd:t.Nodup)(hb:∀x∈t,x<w):(oth w t).length+t.length=w:=by
 have p:(oth w t++t).Perm (Qg w):=by
  refine(QaD ?_ JK).mpr λx=>?_
  ·refine Qba.mpr ⟨JK.filter _,nd,λa ha b hb e=>?_⟩;have:=(QP.mp ha).2;rw[e] at this;simp at this;exact this hb
  ·rw[Ys];unfold oth;rw[QP];constructor
   ·rintro(z | z)
    ·exact z.1
    ·exact Qw.mpr (hb x z)
   ·intro z;by_cases y:x∈t
    ·exact .inr y
    ·exact .inl ⟨z,by simpa using y⟩
 have:=p.length_eq;rw[QM,Qv] at this;exact this
theorem Qgn{α:Type}[DecidableEq α]:∀{l:List α}{j:Nat}{c:α},l.Nodup->l[j]? = some c->l.eraseIdx j=l.filter λx => !decide (x=c)
 |[],_,_,_,h=>by simp at h
 |x::xs,0,c,nd,h=>by
  simp at h;subst h;have hx:=(JI.mp nd).1;rw[Je (by simp)];show xs=_
  symm
  rw[ZD];intro y hy;have:y≠x:=λe=>hx (by rw[<- e];exact hy)
  simpa using this
 |x::xs,j+1,c,nd,h=>by
  have hx:=(JI.mp nd).1;have h':xs[j]? = some c:=by simpa using h
  have ne:x≠c:=λe=>hx (by rw[e];exact Ji h')
  rw[Jd (by simpa using ne)];show x::xs.eraseIdx j=_;rw[Qgn (JI.mp nd).2 h']
theorem QrF{w:Nat}{t:List Nat}{c:Nat}:oth w (t++[c])=(oth w t).filter λx => !decide (x=c):=by
 unfold oth;rw[Qmi];refine YL λx _=>?_
 rw[J7];simp[not_or,and_comm]
def Qxd:DF:=λargs R _=>∃(n:Nat)(o:List Nat),args=[.v (.int n),.v (tNn o)]/\n<=6/\o∈YH n n/\R (.bool true)
theorem QuJ{n:Nat}{o:List Nat}(h:o∈YH n n){ms:List Int}(p:ms.Perm (iN o))(s:ms.Pairwise (·<=·)):ms=iN (Qg n):=by
 have p2:ms.Perm (iN (Qg n)):=p.trans ((QaA h).map _);have s2:(iN (Qg n)).Pairwise (·<=·):=Zw.mpr (YG.imp λ{a b}(z:a<b)=>by show(a:Int)<=b;omega);exact Qd8 (le:=(·<=·)) (λa b _ _ h1 h2=>Int.le_antisymm h1 h2) s s2 p2
end Rk
namespace Dl
open L2 _root_.Rd Rk
@[irreducible] def QvN(t:DT)(wb:DS)(D:QdN)(δ:Sts):Prop:=∃Iv:Nat->Sts->Prop,(∃m,Iv m δ)/\∀m δ,Iv m δ->t δ (λb=>if b=true then wb { D with nx:=λδ'=>∃m',m'<m/\Iv m' δ',ct:=λδ'=>∃m',m'<m/\Iv m' δ',bk:=D.nx } δ else D.nx δ) D.ex
def Qlx(t:DT)(wb:DS):DS:=λD δ=>QvN t wb D δ
section
variable{X:Cx}{E:XK}
theorem Qkx{c:QR}{body:List ZG}{pos:Pos}{t:DT}{wb:DS}(hp:QeD (model X.prog X.w) X.A X.env X.xe)(hc:PT X c (tT X.K E t))(hb:PSs X body (tS X.K E wb)):PS X (.While c body [] pos) (tS X.K E (Qlx t wb)):=by
 refine PS.imp (QmN hp hc hb) λD σ H ⟨F,δ,DD,rel,hw,en⟩=>?_
 unfold Qlx QvN at hw;obtain⟨Iv,⟨m0,i0⟩,step⟩:=hw;refine⟨λm σ' H'=>∃δ',Iv m δ'/\Rel X.K F σ' H' δ'/\Stp F σ H δ σ' H' δ',⟨m0,δ,i0,rel,Stp.refl⟩,?_⟩;rintro m σ' H' ⟨δ',iv,r',st'⟩;refine⟨F,δ',_,DD.ex,r',step m δ' iv,λb hb H1 rel1 kp1=>?_,en.ex⟩;have st1:Stp F σ H δ σ' H1 δ':=st'.trans (Stp.kp kp1);cases b with
 |true=>
  rw[if_pos rfl] at hb;show if true=true then _ else _
  rw[if_pos rfl];refine⟨λσ2 H2=>∃δ2,(∃m',m'<m/\Iv m' δ2)/\Rel X.K F σ2 H2 δ2/\Stp F σ H δ σ2 H2 δ2,λσ2 H2 ⟨δ2,⟨m',hm,h2⟩,r2,s2⟩=>⟨m',hm,δ2,h2,r2,s2⟩,F,δ',_,rel1,hb,?_⟩;exact⟨⟨λδ6 h6 σ6 H6 r6 s6=>⟨δ6,h6,r6,st1.trans s6⟩⟩,en.rt,en.rtF,(en.step st1).nx,⟨λδ6 h6 σ6 H6 r6 s6=>⟨δ6,h6,r6,st1.trans s6⟩⟩,en.ex⟩
 |false=>
  rw[if_neg Qo] at hb;show if false=true then _ else _
  rw[if_neg Qo];exact(en.step st1).nx.go δ' hb σ' H1 rel1 Stp.refl
theorem QmK{c:QR}{body:List ZG}{pos:Pos}{t:DT}{wb:DS}(hp:QeD (model X.prog X.w) X.A X.env X.xe)(hc:QT X E c t)(hb:QSs X E body wb):QS X E (.While c body [] pos) (Qlx t wb):=⟨Qkx hp hc.h hb.h⟩
end
theorem Qtc{t:DT}{wb:DS}{D:QdN}{δ:Sts}(Iv:Nat->Sts->Prop)(m0:Nat)(h0:Iv m0 δ)
  (hs:∀m δ,Iv m δ->t δ (λb=>if b=true then wb { D with nx:=λδ'=>∃m',m'<m/\Iv m' δ',ct:=λδ'=>∃m',m'<m/\Iv m' δ',bk:=D.nx } δ else D.nx δ) D.ex):QvN t wb D δ:=by
 unfold QvN;exact⟨Iv,⟨m0,h0⟩,hs⟩
theorem DAs.eraseIdx{A:Addr->Prop}{H:Hp}:∀{xs:List V}{ds:List Qb},DAs A H xs ds->∀n:Nat,DAs A H (xs.eraseIdx n) (ds.eraseIdx n)
 |_,_,.nil,n=>.nil
 |_,_,.cons a b,0=>b
 |_,_,.cons a b,n+1=>.cons a (b.eraseIdx n)
section
variable{X:Cx}{E:XK}{st:ZG}{i j:Nat}{we:DE}
def Qhs(i j:Nat)(we:DE):DS:=λD δ=>match δ[i]? with
 |some (.own ds)=>(match δ[j]? with
  |some (.own es)=>we δ (λd=>∃(k:Nat)(e:Qb),d=.int k/\k<1000/\es[k]? = some e/\ds.length<1000000/\D.nx ((δ.set j (.own (es.eraseIdx k))).set i (.own (ds++[e])))) D.ex
  |_=>False)
 |_=>False
theorem QkA(hij:i≠j)(h:PS X st (Qmt (tBM X.K "list" Qg1 (Qde i) (Qa5 (tBM X.K "list" QoC (Qde j) (Qa5 (tX .P X.K E we) QjU)) QjU)))):PS X st (tS X.K E (Qhs i j we)):=by
 refine PS.imp h λD σ H ⟨F,δ,DD,rel,hw,en⟩=>?_
 unfold Qhs at hw;split at hw
 ·rename_i ds hi
  split at hw
  ·rename_i es hj
   obtain⟨x,hx⟩:=rel.lt hi;obtain⟨l,xs,rfl,e,q,f⟩:=rel.sl i _ _ hx hi;obtain⟨y,hy⟩:=rel.lt hj;obtain⟨m,ys,rfl,e2,q2,f2⟩:=rel.sl j _ _ hy hj;have np:=rel.own_pot hi hx;have np2:=rel.own_pot hj hy;have ne:l≠m:=λz=>by
    subst z;exact hij (rel.inj i j l ds hi hx ⟨hy,.inr ⟨es,hj⟩⟩)
   refine⟨.ref l,hx,.inl ⟨rfl,_,SqL.of e⟩,.ref m,hy,.inl ⟨rfl,_,SqL.of e2⟩,F,δ,_,DD.ex,rel,hw,λd ⟨k,e',ed,k1,hk,hl,hn⟩ v H' rel' kp vk=>?_,en.ex⟩;subst ed;rw[DP.int vk];obtain⟨yv,hyv,dyv⟩:=(kp.das q2).get k e' hk;have kl:k<ys.length:=(Jm.mp hyv).1;obtain⟨r2,st2⟩:=rel'.mut hj hy ((kp.das q2).eraseIdx k);have dy2:=st2.da dyv;have q':=st2.das (kp.das q);have hi':(δ.set j (.own (es.eraseIdx k)))[i]? = some (.own ds):=by rw[Qaa (Qa9 hij)];exact hi
   obtain⟨r3,st3⟩:=r2.mut hi' hx (q'.app (.cons dy2 .nil));refine⟨m,ys,(k:Int),k,yv,rfl,rfl,kp.1 _ _ np2 e2,by omega,by omega,?_,hyv,l,xs,yv,rfl,rfl,?_,QH (by rw[q.length];exact hl) Qgi,en.nx.go _ hn _ _ r3 (((Stp.kp kp).trans st2).trans st3)⟩
   ·show seqIndex? (k:Int) ys.length=some k;unfold seqIndex?;simp;omega
   ·rw[JC ne];exact kp.1 _ _ np e
  ·exact hw.elim
 ·exact hw.elim
theorem QmL{y z:Str}{e:QR}{we:DE}{apos cpos pos npos bpos dpos mpos:Pos}(i j:Nat)(he:QE .P X E e we)(hij:i≠j:=by decide)(hN:X.N[i]? = some y:=by rfl)(hM:X.N[j]? = some z:=by rfl)
  (hv:Vis X.env.scope y:=by first | exact Q1 rfl | exact QY (Q1 rfl) | exact QY (QY rfl))(hd:(y == ("__debug__" : Str))=false:=by decide)(hcd:(y == ("__classdict__" : Str))=false:=by decide)
  (hv2:Vis X.env.scope z:=by first | exact Q1 rfl | exact QY (Q1 rfl) | exact QY (QY rfl))(hd2:(z == ("__debug__" : Str))=false:=by decide)(hcd2:(z == ("__classdict__" : Str))=false:=by decide)
  (hst:notStar e=true:=by rfl)
  (hbase2:attributeBase (.Name z mpos) "pop" X.env (eval (.Name z mpos) X.env)=eval (.Name z mpos) X.env:=by rfl)
  (hfew2:((backTo dpos (starEach [e] X.env)).all (λx => !x.1)&&(backToKw dpos (keywordEach [] X.env)).all (λx=>x.1.isSome)&&decide ([e].length+([]:List Qac).length+(if([]:List Qac).isEmpty then 0 else 1)<30))=true:=by rfl)
  (hline2:(bpos.endLine == dpos.line)=true:=by rfl)
  (hbase:attributeBase (.Name y npos) "append" X.env (eval (.Name y npos) X.env)=eval (.Name y npos) X.env:=by rfl)
  (hfew:((backTo cpos (starEach [.Call (.Attribute (.Name z mpos) "pop" bpos) [e] [] dpos] X.env)).all (λx => !x.1)&&(backToKw cpos (keywordEach [] X.env)).all (λx=>x.1.isSome)&&decide ([Expr.Call (.Attribute (.Name z mpos) "pop" bpos) [e] [] dpos].length+([]:List Qac).length+(if([]:List Qac).isEmpty then 0 else 1)<30))=true:=by rfl)
  (hline:(apos.endLine == cpos.line)=true:=by rfl)
  (hsw:swapsWith (.Call (.Attribute (.Name y npos) "append" apos) [.Call (.Attribute (.Name z mpos) "pop" bpos) [e] [] dpos] [] cpos) none pos.line X.env=pure false:=by rfl) :
  QS X E (.Expr (.Call (.Attribute (.Name y npos) "append" apos) [.Call (.Attribute (.Name z mpos) "pop" bpos) [e] [] dpos] [] cpos) pos) (Qhs i j we):=
 ⟨QkA hij (Qg4 (Qg8 PySem.F.plainAttrs_list PySem.F.slot_list_append PySem.F.type_list_append Qdr (pv i hN hv hd hcd) (Qcc (Qg8 PySem.F.plainAttrs_list PySem.F.slot_list_pop PySem.F.type_list_pop QnA (pv j hM hv2 hd2 hcd2) (Qcc he.h JA hst) hbase2 hfew2 hline2 (J5 hst) rfl) JA) hbase hfew hline rfl rfl) hsw)⟩
end
end Dl
namespace L2
section
variable{X:Cx}{pins:List (Addr×Obj)}{σ:St}{H H3:Hp}{s3:Shared}{M:List Str}{scope:YW}{cap:List (Option Nat)}{fp:List Addr}{h4:JR}{t4:Nat}
end
section
variable{X:Cx}{pins:List (Addr×Obj)}{σ:St}{H:Hp}
end
end L2
namespace Rk
open L2 _root_.Rd Dl
end Rk
namespace Dl
open L2
section
variable{X:Cx}{E:XK}
end
end Dl
namespace Rk
theorem Qcl{n:Nat}(h:n<=1000000):n<sizeLine:=Yy h (by decide)
end Rk
namespace L2
def Its(x:Str):It:=⟨λi _=>i<x.cps.size,λi H v H'=>H'=H/\∃c,x.cps[i]? = some c/\v=.str ⟨#[c]⟩,λi _=>i=x.cps.size⟩
theorem QfL{prog:Qz}{w:Jf}{A:Jb}(hh:A.handled=none)(I:Addr)(x:Str)(t:Tok):Walks prog w A I [I] [I] x.cps.size (SignAt x) (λi h=>h.IsStrIter I (strIterType x) x t i):=by
 unfold strIterType;cases ha:x.cps.all (· < 128)
 ·simp only[QaI,if_false];exact Walks.strWide hh I x t
 ·simp only[if_true];exact Walks.strAscii hh I x t
theorem Qgp{prog:Qz}{w:Jf}{A:Jb}(hh:A.handled=none)(it:Addr)(x:Str)(t:Tok):Draws prog w A it [it] x.cps.size (λi v=>∃c u,x.cps[i]? = some c/\v=.str ⟨#[c]⟩ u) (λi h=>h.IsStrIter it (strIterType x) x t i):=by
 unfold strIterType;cases ha:x.cps.all (· < 128)
 ·simp only[QaI,if_false];exact Draws.strWide hh it x t
 ·simp only[if_true];exact Draws.strAscii hh it x t
theorem Qd3{prog:Qz}{w:Jf}{A:Jb}{E:Value->Shared->Prop}{s:Shared}{it:Addr}{x:Str}{t:Tok}{i:Nat}{Q:Value->Shared->Prop}(hit:s.heap.IsStrIter it (strIterType x) x t i)(h:Q (.ref it) s):wpAny (model prog w) A (pyIter (.ref it)) Q E s:=by
 unfold strIterType at hit;cases ha:x.cps.all (· < 128)
 ·rw[ha] at hit;exact wpAny_pyIter_striter_wide hit h
 ·rw[ha] at hit;exact wpAny_pyIter_striter_ascii hit h
theorem Qhi(x:Str):["enumerate", "zip", "dict_itemiterator", "dict_reverseitemiterator", "odict_iterator", "itertools.zip_longest", "itertools.pairwise"].contains (strIterType x)=false:=by
 unfold strIterType;split<;>decide
theorem Qmp{P:Qz}{w:Jf}{K:PySem.W.Frag}{tg:QR}(it:Addr)(x:Str)(t:Tok):Turn P w K tg (Its x) [it] it (λi h=>h.IsStrIter it (strIterType x) x t i) where
 mem:=by simp
 obj:=λi h st b hb=>by
  have e:b=it:=by simpa using hb
  subst e;obtain⟨o,e,c,d⟩:=st;exact⟨o,e,λv z=>by rw[d] at z;cases z⟩
 keep:=λi h h' st k=>by
  obtain⟨o,e,r⟩:=st;exact⟨o,k it (by simp) o e,r⟩
 item:=by
  intro X hP hw hK hc i pins s σ H E I hf st hg;subst hP hw hK;obtain⟨f0,f1,f2,f3,f4,f5⟩:=hf it (by simp);refine(QfL (I.ok.hd hc) it x t).item i s _ _ hg st λv h' tk hv st' kk=>?_
  obtain⟨c,u,hx,rfl⟩:=hv;have I1:Inv X pins σ H { s with heap:=h',toks:=tk }:=I.turned (λb o hb e=>kk b o (by simpa using hb) e) f0 f1 f3 f4 f5;obtain⟨o,e,cc,d⟩:=id st';exact⟨_,rfl,Qli (s:={ s with heap:=h',toks:=tk }) e cc d (Qhi x) ⟨.str ⟨#[c]⟩,H,I1,⟨u,rfl⟩,⟨rfl,c,hx,rfl⟩,st',λb hb=>(hf b hb).1⟩⟩
 done:=by
  intro X hP hw hK hc i pins s σ H E I hf st hg;subst hP hw hK;have hg:i=x.cps.size:=hg;subst hg;obtain⟨f0,f1,f2,f3,f4,f5⟩:=hf it (by simp);exact(QfL (I.ok.hd hc) it x t).done s _ _ st λh' tk kk=>⟨rfl,I.turned (λb o hb e=>kk b o (by simpa using hb) e) f0 f1 f3 f4 f5⟩
 self:=λ_ _ _ _ _ st h=>Qd3 st h
def QyD(tl:TE):TI:=λσ H R=>tl σ H λv H1=>∃x,v=.str x/\R (Its x) H1
def Ies(x:Str):It:=⟨λi _=>i<x.cps.size,λi H v H'=>∃p c,H p=none/\x.cps[i]? = some c/\v=.ref p/\H'=upd H p (.tup [.int (i:Nat),.str ⟨#[c]⟩]),λi _=>i=x.cps.size⟩
theorem QiG{P:Qz}{w:Jf}{K:PySem.W.Frag}{elts:List QR}{x1}{tpos:Pos}{e it:Addr}{x:Str}{t:Tok}(hne:e≠it) :
  Turn P w K (.Tuple elts x1 tpos) (Ies x) [e,it] e (λi h=>(∃old,IsEnum h e it (i:Nat) old)/\h.IsStrIter it (strIterType x) x t i) where
 mem:=by simp
 obj:=λi h st b hb=>by
  obtain⟨⟨old,a1⟩,⟨o2,a2,_,d2⟩⟩:=st;simp only[Qq,QK,or_false] at hb;rcases hb with rfl | rfl
  ·exact⟨_,a1,λv q=>nomatch q⟩
  ·exact⟨_,a2,λv q=>by rw[d2] at q;cases q⟩
 keep:=λi h h' st k=>by
  obtain⟨⟨old,a1⟩,⟨o2,a2,c2⟩⟩:=st;exact⟨⟨old,k e (by simp) _ a1⟩,o2,k it (by simp) _ a2,c2⟩
 item:=by
  intro X hP hw hK hc i pins s σ H E I hf st hg;subst hP hw hK;obtain⟨⟨old,a1⟩,a2⟩:=st;refine Ql9 (Qgp (A:=X.A.in1) (I.ok.hd hc) it x t) a1 a2 hg hne (by simp[hne]) λy h' tk hy o' l' tp sz kp=>?_
  obtain⟨c,u,hx,rfl⟩:=hy;have fr:H s.heap.objs.size=none:=I.hok.fresh (Qh _);have n1:e≠s.heap.objs.size:=QC (Qk a1);have n2:it≠s.heap.objs.size:=by
   obtain⟨o2,a2,_⟩:=a2;exact QC (Qk a2)
  refine⟨_,rfl,Qbc o' λh2 e2 s2=>?_⟩;have I1:Inv X pins σ (upd H s.heap.objs.size (.tup [.int (i:Nat),.str ⟨#[c]⟩])) { s with heap:=h2,toks:=tk+1 }:=by
   refine I.turnedNew (ch:=[e,it]) hf (λb v hb q=>?_) (Qh _) ⟨by show 2<=sizeLine;decide,[.int (i:Nat) tk,.str ⟨#[c]⟩ u],.cons ⟨_,rfl⟩ (.cons ⟨_,rfl⟩ .nil),?_⟩
   ·simp only[Qq,QK,or_false,not_or] at hb;exact s2.extBut _ _ hb.1 (kp b v hb.1 hb.2 q)
   ·exact⟨_,s2.extBut _ _ n1.symm tp,rfl,rfl,0,rfl⟩
  refine⟨.ref s.heap.objs.size,_,I1,rfl,⟨_,c,fr,hx,rfl,rfl⟩,⟨⟨_,e2⟩,?_⟩,λb hb=>?_⟩
  ·exact l'.extBut s2.extBut hne.symm
  ·simp only[Qq,QK,or_false] at hb;rcases hb with rfl | rfl
   ·rw[JC n1];exact(hf _ (by simp)).1
   ·rw[JC n2];exact(hf _ (by simp)).1
 done:=by
  intro X hP hw hK hc i pins s σ H E I hf st hg;subst hP hw hK;have hg:i=x.cps.size:=hg;subst hg;obtain⟨⟨old,a1⟩,a2⟩:=st;refine Qoc (Qgp (A:=X.A.in1) (I.ok.hd hc) it x t) a1 a2 λh' kp=>⟨rfl,I.turnedAll (t':=s.toks) (ch:=[e,it]) hf λb v hb q=>?_⟩
  simp only[Qq,QK,or_false,not_or] at hb;exact kp b v hb.2 q
 self:=λ_ _ _ _ _ st h=>by
  obtain⟨⟨old,a1⟩,_⟩:=st;exact Yi a1 h
def QoW(ta:TA):TI:=λσ H R=>ta σ H λvs H1=>∃x,vs=[.str x]/\R (Ies x) H1
section
variable{X:Cx}
theorem QtU{tg l:QR}{tl:TE}(hl:PE X l tl):PI X tg l (QyD tl):=by
 intro pins s σ H R I h;refine thn (hl pins s σ H _ I h) λv s1 ⟨x,H1,I1,r1,z,e,q⟩=>?_
 subst e;obtain⟨t,rfl⟩:=r1;refine wpAny_pyIter_strU ?_
 refine⟨s1.heap.objs.size,[s1.heap.objs.size],_,_,H1,rfl,I1.kept (t':=s1.toks) λb o e=>Qc _ e,Qmp _ z t,⟨_,Qu _ rfl,rfl,rfl⟩,λb hb=>?_,q⟩;have e:b=s1.heap.objs.size:=by simpa using hb
 subst e;exact I1.fpOk (Qh _) (I1.hok.fresh (Qh _))
theorem QmS{a:QR}{elts:List QR}{x1}{tpos:Pos}{ta:TA}{p pos:Pos}(hg:Gl X "enumerate")(hm:X.mg "enumerate" = none)(ha:PA X [a] ta)(hs:starEach [a] X.env=[(false,eval a X.env)]:=by rfl) :
  PI X (.Tuple elts x1 tpos) (.Call (.Name "enumerate" p) [a] [] pos) (QoW ta):=by
 intro pins s σ H R I h;refine Qwd (Qa0 I hg hm QdI (Q5 (thn (ha pos pins s σ H _ I h) λus s1 ⟨vs,H1,I1,r1,q1⟩=>?_) hs rfl));obtain⟨x,e,q⟩:=q1;subst e;obtain⟨u,rfl,ru⟩:=vals1 r1;obtain⟨t,rfl⟩:=ru;refine call_enumerate_str λh' e1 i1 sz kp=>?_
 refine Yi (s:={ s1 with heap:=h' }) e1 ?_
 refine⟨s1.heap.objs.size+1,_,_,_,H1,rfl,I1.kept (t':=s1.toks) kp,QiG (by show ¬(s1.heap.objs.size+1=s1.heap.objs.size);omega),⟨⟨_,e1⟩,i1⟩,λb hb=>?_,q⟩;have hb':s1.heap.objs.size<=b:=by
  simp only[Qq,QK,or_false] at hb;rcases hb with rfl | rfl<;>omega
 exact I1.fpOk hb' (I1.hok.fresh hb')
theorem QfM:∀(l:List (Str×Tok)),Vals ((l.map (·.1)).map V.str) (strValues l)
 |[]=>.nil
 |p::l=>.cons ⟨p.2,rfl⟩ (QfM l)
theorem QfT:∀{ts:List Str}{us:List Value},Vals (ts.map V.str) us->∃l:List (Str×Tok),us=strValues l/\l.map (·.1)=ts
 |[],_,.nil=>⟨[],rfl,rfl⟩
 |t::ts,_,.cons ⟨u,e⟩ r=>by
  obtain⟨l,rfl,rfl⟩:=QfT r;subst e;exact⟨(t,u)::l,rfl,rfl⟩
theorem split_le(x y:Str):(JB x y).length<=x.length+2:=by
 unfold JB;split
 ·show 1<=_;omega
 ·split
  ·show 1<=_;omega
  ·rw[QfF];have h1:=StrLaws.occ_length_le x y 0 x.length (x.length+1);have h2:∀(cuts:List Nat)(w a:Nat),(Qjz x w a cuts).length=cuts.length+1:=by
    intro cuts;induction cuts with
    |nil=>intro w a;rfl
    |cons c r ih=>intro w a;show(Qjz x w (c+w) r).length+1=_;rw[ih];rfl
   rw[h2];omega
def QtE:V->List V->Hp->VK->Prop:=λx vs H Q=>∃z y,x=.str z/\vs=[.str y]/\(y.length == 0)=false/\z.length<=30000/\∀l H',Same H H'->H l=none->H' l=some (.lst ((JB z y).map V.str))->Q (.ref l) H'
theorem Qnz:MtR X "str.split" QtE:=by
 intro pins s σ H x vs v us Q I rx rv h;obtain⟨z,y,rfl,rfl,hy,hz,q⟩:=h;obtain⟨t,rfl⟩:=rx;obtain⟨u,rfl,ru⟩:=rv.one;obtain⟨t',rfl⟩:=ru;have hf:H s.heap.objs.size=none:=I.hok.fresh (Qh _);have hlen:=split_le z y;have fin:∀(l:List (Str×Tok))(tk:Nat),l.map (·.1)=JB z y->EP X pins σ Q (.ref s.heap.objs.size) { s with heap:=s.heap.push { cls:=.type "list",data:=.seq (strValues l).toArray },toks:=tk }:=λl tk hl=>by
  refine⟨.ref s.heap.objs.size,upd H s.heap.objs.size (.lst ((JB z y).map V.str)),I.laid (t':=tk) (λb u e=>Qc _ e) (Qh _) ⟨?_,strValues l,0,?_,Qu _ rfl⟩,rfl,q _ _ (Jg hf) hf Jh⟩
  ·rw[Qe];exact Ju (Rk.Qcl (by omega))
  ·rw[<- hl];exact QfM l
 have hzl:z.length<=sizeLine:=Ju (Rk.Qcl (by omega));cases h1:(decide (z.length<y.length)||decide (QfK z<QfK y))
 ·cases hf2:(Qax z y 0 z.length (z.length+1)).isEmpty
  ·have es:JB z y=QdR z (Qax z y 0 z.length (z.length+1)) y.length:=(if_neg (ne_true_of_eq_false h1)).trans (if_neg (ne_true_of_eq_false hf2));refine Y8 QfJ (Ql3 _ _ _) QeG (Qd0 _ _) (meets_str_split_sep z y t t' h1 hy hf2 hzl (by rw[<- es];exact Ju (Rk.Qcl (by omega)))) ?_
   show wants _ _ _ { s with toks:=_,heap:=s.heap.push { cls:=.type "list",data:=.seq (strsFrom s.toks (QdR z (Qax z y 0 z.length (z.length+1)) y.length)).toArray } };rw[strsFrom_eq];exact fin (numbered s.toks _) _ ((numbered_texts _ _).trans es.symm)
  ·exact Y8 QfJ (Ql3 _ _ _) QeG (Qd0 _ _) (meets_str_split_not_found z y t t' h1 hy hf2)
    (fin [(z,t)] s.toks ((if_neg (ne_true_of_eq_false h1)).trans (if_pos hf2)).symm)
 ·exact Y8 QfJ (Ql3 _ _ _) QeG (Qd0 _ _) (meets_str_split_cannot_occur z y t t' h1)
   (fin [(z,t)] s.toks (if_pos h1).symm)
def QwA(K:PySem.W.Frag):V->List V->Hp->VK->Prop:=λx vs H Q=>∃sep p ts,x=.str sep/\vs=[.ref p]/\SqL K H p ((ts:List Str).map V.str)/\JoinOk sep ts=true/\Q (.str (QaS sep ts)) H
theorem Qk4:MtR X "str.join" (QwA X.K):=by
 intro pins s σ H x vs v us Q I rx rv h;obtain⟨sep,p,ts,rfl,rfl,hp,hok,q⟩:=h;obtain⟨t,rfl⟩:=rx;obtain⟨u,rfl,ru⟩:=rv.one;cases ru;obtain⟨its,rv',pl,hz⟩:=I.list hp;obtain⟨l,rfl,hl⟩:=QfT rv';exact SC.join pl.isList hl hok λt' k=>⟨.str (QaS sep ts),H,I.tok k,⟨t',rfl⟩,q⟩
end
end L2
namespace Rk
open L2 _root_.Rd
abbrev csH:Str:=⟨#[35]⟩
abbrev csO:Str:=⟨#[46]⟩
abbrev csB:Str:=⟨#[47]⟩
abbrev csE:Str:=⟨#[]⟩
theorem Qtq:(ZX "")=csE:=by decide +kernel
theorem QoQ(c d:Nat):((⟨#[c]⟩:Str)=⟨#[d]⟩)↔c=d:=by
 constructor
 ·intro h;have:=congrArg Str.cps h
  simpa using this
 ·rintro rfl;rfl
theorem Qsl(c d:Nat):decide (V.str ⟨#[c]⟩=V.str ⟨#[d]⟩)=decide (c=d):=by
 by_cases h:c=d
 ·subst h;simp
 ·rw[decide_eq_false h];refine decide_eq_false λz=>h ((QoQ c d).mp ?_)
  injection z
def codeAt(s:Str)(i:Nat):Nat:=s.cps.getD i 0
theorem QdF{s:Str}{i c:Nat}(h:s.cps[i]? = some c):codeAt s i=c:=by
 unfold codeAt;rw[Zf,h];rfl
def QaN(s:Str):Bool:=(Qg s.cps.size).all λi=>decide (codeAt s i=35)||decide (codeAt s i=46)
def YM(rows:List Str):Nat:=(rows.getD 0 csE).length
def YC(rows:List Str):Bool:=decide (rows.length<=6)&&(decide (1<=YM rows)&&(decide (YM rows<=6)&&rows.all λr=>decide (r.length=YM rows)&&QaN r))
def QlH(rows:List Str)(i j:Nat):Option (Int×Int):=if codeAt (rows.getD i csE) j=35 then some ((i:Int),(j:Int)) else none
def QdG(rows:List Str):List (Int×Int):=Qbi (QlH rows) (YM rows) rows.length
def Qg0(rows:List Str):Qb:=if YC rows=true then Qis rows.length (YM rows) (QdG rows) else .str "text"
def QtD:V->Qb
 |.str t=>Qg0 (JB t csB)
 |_=>.str "text"
def QeS(L:List (Int×Int))(r c:Nat):Str:=if((r:Int),(c:Int))∈L then csH else csO
def Qkb(L:List (Int×Int))(w r:Nat):Str:=QaS csE ((Qg w).map (QeS L r))
def linesS(h w:Nat)(L:List (Int×Int)):List Str:=(Qg h).map (Qkb L w)
def Qbf(h w:Nat)(L:List (Int×Int)):Str:=QaS csB (linesS h w L)
theorem Qc3(sep:Str)(ts:List Str):QaS sep ts=QaT sep ts:=StrLaws.glued_eq_join sep ts
theorem Yx(sep:Str):∀(t:Str)(ts:List Str),(QaT sep (t::ts)).cps.toList=t.cps.toList++ts.flatMap λu=>sep.cps.toList++u.cps.toList
 |t,[]=>by simp[QaT]
 |t,u::ts=>by
  show(t++sep++QaT sep (u::ts)).cps.toList=_;rw[Qvv,Qvv,QjF,QjF,Yx sep u ts];simp
theorem Qi4:∀ts:List Str,(QaT csE ts).cps.toList=ts.flatMap λu=>u.cps.toList
 |[]=>rfl
 |t::ts=>by rw[Yx];simp
theorem Qj1(L:List (Int×Int))(r c:Nat):(QeS L r c).cps.toList=[if((r:Int),(c:Int))∈L then 35 else 46]:=by
 unfold QeS;split<;>rfl
theorem Qc5(L:List (Int×Int))(w r:Nat):(Qkb L w r).cps.toList=(Qg w).map λ(c:Nat)=>if((r:Int),(c:Int))∈L then 35 else 46:=by
 unfold Qkb;rw[Qc3,Qi4,Qpt];simp only[Qj1];rw[QhK]
where
 QhK {α β:Type} {f:α->β} {l:List α}:(l.flatMap λx=>[f x])=l.map f:=by
  induction l with
  |nil=>rfl
  |cons a l ih=>rw[YK,JT,ih];rfl
theorem Qb7(L:List (Int×Int))(w r:Nat):(Qkb L w r).length=w:=by
 have h:=congrArg Qfw (Qc5 L w r);rw[Qe,Qv] at h
 simpa [Str.length] using h
theorem QfY(L:List (Int×Int)){w r c:Nat}(hc:c<w):codeAt (Qkb L w r) c=if((r:Int),(c:Int))∈L then 35 else 46:=by
 refine QdF ?_
 rw[<- QiA,Qc5,Qr,Q9 hc];rfl
theorem QlB{c:Nat}:∀{a b:List Nat}{x y:List Nat},c∉a->c∉b->a++c::x=b++c::y->a=b/\x=y
 |[],[],_,_,_,_,h=>⟨rfl,(QaH h).2⟩
 |[],b::bs,_,_,_,hb,h=>absurd (QaH h).1 λz=>hb (z ▸ QV)
 |a::as,[],_,_,ha,_,h=>absurd (QaH h).1 λz=>ha (z ▸ QV)
 |a::as,b::bs,_,_,ha,hb,h=>by
  obtain⟨e1,e2⟩:=QaH h;obtain⟨r1,r2⟩:=QlB (λz=>ha (Q0 _ z)) (λz=>hb (Q0 _ z)) e2;exact⟨by rw[e1,r1],r2⟩
theorem QjW{a b:Str}(h:a.cps.toList=b.cps.toList):a=b:=Str.ext' (Qop.mp h)
theorem Qid{c:Nat}:∀{ts us:List Str}{t u:Str},(∀p∈t::ts,c∉p.cps.toList)->(∀p∈u::us,c∉p.cps.toList)->(QaT ⟨#[c]⟩ (t::ts)).cps.toList=(QaT ⟨#[c]⟩ (u::us)).cps.toList->t::ts=u::us
 |[],[],t,u,_,_,h=>by
  have e:t.cps.toList=u.cps.toList:=h;rw[QjW e]
 |[],v::us,t,u,ht,_,h=>by
  rw[Yx,Yx] at h;simp at h;exact absurd (by rw[h];simp) (ht t QV)
 |s::ts,[],t,u,_,hu,h=>by
  rw[Yx,Yx] at h;simp at h;exact absurd (by rw[<- h];simp) (hu u QV)
 |s::ts,v::us,t,u,ht,hu,h=>by
  have e:t.cps.toList++c::(QaT ⟨#[c]⟩ (s::ts)).cps.toList=u.cps.toList++c::(QaT ⟨#[c]⟩ (v::us)).cps.toList:=by
   rw[Yx,Yx] at h ⊢
   simpa [Yx] using h
  obtain⟨e1,e2⟩:=QlB (ht t QV) (hu u QV) e;rw[QjW e1,Qid (λp hp=>ht p (Q0 _ hp)) (λp hp=>hu p (Q0 _ hp)) e2]
theorem QhR(x y:Str):∃t ts,JB x y=t::ts:=by
 unfold JB;split
 ·exact⟨_,_,rfl⟩
 ·split
  ·exact⟨_,_,rfl⟩
  ·rw[QfF];exact StrLaws.partsFrom_ne x y.length 0 _
theorem QiJ{c:Nat}{t:Str}{ts:List Str}(h:∀p∈t::ts,c∉p.cps.toList):JB (QaS ⟨#[c]⟩ (t::ts)) ⟨#[c]⟩=t::ts:=by
 obtain⟨u,us,e⟩:=QhR (QaS ⟨#[c]⟩ (t::ts)) ⟨#[c]⟩;have h1:=StrLaws.split_free (QaS ⟨#[c]⟩ (t::ts)) c;have h2:=Qjn (QaS ⟨#[c]⟩ (t::ts)) ⟨#[c]⟩;rw[e] at h1 h2 ⊢;exact Qid h1 h (by rw[h2,Qc3])
theorem QiI{x y r:Str}(h:r∈JB x y):r.length<=x.length:=by
 have h1:=join_mem_le y (JB x y) r h
 rwa [Qjn] at h1
theorem Qi1{h w:Nat}{L:List (Int×Int)}:∀p∈linesS h w L,47∉p.cps.toList:=λp hp=>by
 obtain⟨r,_,rfl⟩:=QF.mp hp;rw[Qc5];intro z;obtain⟨c,_,e⟩:=QF.mp z;split at e<;>omega
theorem Qdu{h w:Nat}{L:List (Int×Int)}(h1:1<=h):JB (Qbf h w L) csB=linesS h w L:=by
 obtain⟨t,ts,e⟩:∃t ts,linesS h w L=t::ts:=by
  cases q:linesS h w L with
  |nil=>
   have:=congrArg Qfw q;unfold linesS at this;rw[Qe,Qv] at this;simp at this;omega
  |cons t ts=>exact⟨t,ts,rfl⟩
 have f:=Qi1 (h:=h) (w:=w) (L:=L);unfold Qbf;rw[e] at f ⊢;exact QiJ f
theorem Qbm(h w:Nat)(L:List (Int×Int)):(linesS h w L).length=h:=by
 unfold linesS;rw[Qe,Qv]
theorem Qic{h w:Nat}{L:List (Int×Int)}{r:Nat}(hr:r<h):(linesS h w L).getD r csE=Qkb L w r:=by
 unfold linesS;rw[Qi,Qr,Q9 hr];rfl
theorem QcK{h w:Nat}{L:List (Int×Int)}(h1:1<=h):YM (linesS h w L)=w:=by
 unfold YM;rw[Qic (by omega),Qb7]
theorem Qka(L:List (Int×Int))(w r:Nat):QaN (Qkb L w r)=true:=by
 unfold QaN;rw[JL];intro i hi;have hs:(Qkb L w r).cps.size=w:=Qb7 L w r;rw[hs] at hi;rw[QfY L (Qw.mp hi)];split<;>rfl
theorem Qih{α β:Type}{f g:α->List β}:∀{l:List α},(∀a∈l,f a=g a)->l.flatMap f=l.flatMap g
 |[],_=>rfl
 |a::l,h=>by rw[YK,YK,h a QV,Qih λb hb=>h b (Q0 _ hb)]
theorem Qev{α β:Type}{f g:α->Option β}:∀{l:List α},(∀a∈l,f a=g a)->l.filterMap f=l.filterMap g
 |[],_=>rfl
 |a::l,h=>by rw[Zh,Zh,h a QV,Qev λb hb=>h b (Q0 _ hb)]
theorem Qhn{h w:Nat}{L:List (Int×Int)}(g:Good h w L)(hw:w<=64):((Yo h w).filter λp=>decide (p∈L))=L:=by
 have b:=QhC g (by omega);refine(QeQ (h:=h) (w:=w) (M:=L) (L:=L) (P:=λp=>decide (p∈L)) hw (QdZ _) b (Qej b) λx=>?_).symm;rw[Qeq,decide_eq_true_iff];constructor
 ·intro hx;have:=g.ins x hx;exact⟨⟨⟨by omega,by omega⟩,by omega,by omega⟩,hx⟩
 ·exact λz=>z.2
theorem Qfi{h w:Nat}{L:List (Int×Int)}(g:Good h w L)(h1:1<=h)(hw:w<=64):QdG (linesS h w L)=L:=by
 unfold QdG;rw[QcK h1,Qbm];have e:Qbi (QlH (linesS h w L)) w h=(Yo h w).filter λp=>decide (p∈L):=by
  rw[Qhp];unfold Qbi;refine Qih λr hr=>Qev λc hc=>?_
  have hr':=Qw.mp hr;have hc':=Qw.mp hc;unfold QlH;rw[Qic hr',QfY L hc'];by_cases q:((r:Int),(c:Int))∈L
  ·rw[if_pos q,if_pos rfl,if_pos (decide_eq_true q)]
  ·rw[if_neg q,if_neg (by decide),if_neg (by simpa using q)]
 rw[e,Qhn g hw]
theorem QbI{h w:Nat}{L:List (Int×Int)}(h1:1<=h)(h6:h<=6)(w1:1<=w)(w6:w<=6):YC (linesS h w L)=true:=by
 unfold YC;rw[QcK h1,Qbm,decide_eq_true h6,decide_eq_true w1,decide_eq_true w6];simp only[Qbt,JL];intro r hr;obtain⟨i,_,rfl⟩:=QF.mp hr;rw[Qb7,Qka];simp
theorem Qf1{h w:Nat}{L:List (Int×Int)}(g:Good h w L)(h1:1<=h)(h6:h<=6)(w1:1<=w)(w6:w<=6):QtD (.str (Qbf h w L))=Qis h w L:=by
 show Qg0 (JB (Qbf h w L) csB)=_;rw[Qdu h1];unfold Qg0;rw[if_pos (QbI h1 h6 w1 w6),Qbm,QcK h1,Qfi g h1 (by omega)]
theorem Qto{B:Nat}{ts:List Str}(h:∀y∈ts,y.length<=B):(ts.map (·.length)).sum<=ts.length*B:=StrLaws.sumLen_le ts h
theorem QnH{sep:Str}{ts:List Str}{B:Nat}(h:∀y∈ts,y.length<=B):(QaS sep ts).length<=ts.length*B+ts.length*sep.length:=by
 rw[Qc3];have h1:=StrLaws.join_length_le sep ts;have h2:=Qto h;omega
theorem Qk9{sep:Str}{ts:List Str}{B:Nat}(h:∀y∈ts,y.length<=B)(hz:ts.length*B+ts.length*sep.length<=16777216):JoinOk sep ts=true:=by
 unfold JoinOk;rw[StrLaws.joinFits h hz];rfl
theorem QgZ(L:List (Int×Int)){w:Nat}(hw:w<=6)(r:Nat):JoinOk csE ((Qg w).map (QeS L r))=true:=by
 refine Qk9 (B:=1) (λy hy=>?_) ?_
 ·obtain⟨c,_,rfl⟩:=QF.mp hy;unfold QeS;split<;>exact Qh _
 ·rw[Qe,Qv];show w*1+w*0<=_;omega
theorem Qfb{h w:Nat}(L:List (Int×Int))(hh:h<=6)(hw:w<=6):JoinOk csB (linesS h w L)=true:=by
 refine Qk9 (B:=6) (λy hy=>?_) ?_
 ·obtain⟨c,_,rfl⟩:=QF.mp hy;rw[Qb7];exact hw
 ·rw[Qbm];show h*6+h*1<=_;omega
theorem Qmm{h w:Nat}(L:List (Int×Int))(hh:h<=6)(hw:w<=6):(Qbf h w L).length<=42:=by
 unfold Qbf;have:=QnH (sep:=csB) (ts:=linesS h w L) (B:=6) λy hy=>by
  obtain⟨c,_,rfl⟩:=QF.mp hy;rw[Qb7];exact hw
 rw[Qbm] at this;have e:csB.length=1:=rfl;rw[e] at this;omega
theorem Qpy{h w:Nat}(L:List (Int×Int))(h1:1<=h):Qb2 (.str (Qbf h w L))=true:=by
 show Qs1 (Qbf h w L)=true;have e:(Qbf h w L).cps.toList.all (λc=>decide (c<0x110000))=true:=by
  rw[JL];intro c hc;unfold Qbf at hc;rw[Qc3] at hc;cases q:linesS h w L with
  |nil=>rw[q] at hc;simp[QaT,Str.empty] at hc
  |cons t ts=>
   have f:∀p∈linesS h w L,∀c∈p.cps.toList,c<0x110000:=λp hp c hc=>by
    obtain⟨r,_,rfl⟩:=QF.mp hp;rw[Qc5] at hc;obtain⟨k,_,e⟩:=QF.mp hc;split at e<;>omega
   rw[q] at hc f;rw[Yx] at hc;refine decide_eq_true ?_
   rcases Ys.mp hc with z | z
   ·exact f t QV c z
   ·obtain⟨u,hu,hz⟩:=J8.mp z;rcases Ys.mp hz with y | y
    ·have:c∈[47]:=y;simp at this;omega
    ·exact f u (Q0 _ hu) c y
 unfold Qs1;rw[<- Array.all_toList];exact e
end Rk
namespace L2
section
variable{X:Cx}{pos:Pos}
def Qtm(i j k:Nat)(ta:TA):TS:=λD σ H=>ta σ H λvs H1=>∃v w z,vs=[v,w,z]/\D.nx (((σ.set i (some v)).set j (some w)).set k (some z)) H1
theorem Qp9{i j k:Nat}{x y z:Str}{a b c:QR}{ta:TA}{px py pz pt:Pos}{kt k2 pt2}(hc:X.calm=true)(hN:X.N.Nodup)(hi:X.N[i]? = some x)(hj:X.N[j]? = some y)(hk:X.N[k]? = some z)(hij:i≠j)(hik:i≠k)(hjk:j≠k)
  (hx:X.env.scope.names.lookup x=some .local)(hy:X.env.scope.names.lookup y=some .local)(hz:X.env.scope.names.lookup z=some .local)(ha:PA X [a,b,c] ta)
  (hw:swappedStores [.Tuple [.Name x px,.Name y py,.Name z pz] kt pt] (.Tuple [a,b,c] k2 pt2) X.env=pure (some [x,y,z]))
  (hs:swapsWithSole [.Tuple [.Name x px,.Name y py,.Name z pz] kt pt] (.Tuple [a,b,c] k2 pt2) pos.line X.env=pure false:=by rfl) :
  PS X (.Assign [.Tuple [.Name x px,.Name y py,.Name z pz] kt pt] (.Tuple [a,b,c] k2 pt2) pos) (Qtm i j k ta):=by
 intro pins s σ H D I h;rw[exec_Assign_arm];refine wpAny_bind (wpAny_standAt ?_);rw[hs];refine wpAny_bind (Qm ?_);rw[if_neg (by decide)];refine wpAny_bind (Tuple_ (thn (ha _ pins s σ H _ I h) λus s1 ⟨vs,H1,I1,r1,q1⟩=>?_));obtain⟨v,w,v3,e1,q1⟩:=q1;subst e1;obtain⟨u1,u2,u3,rfl,rv,rw',rz⟩:∃u1 u2 u3,us=[u1,u2,u3]/\RelV v u1/\RelV w u2/\RelV v3 u3:=by
  cases r1 with
  |cons p q=>
   cases q with
   |cons p' q'=>
    cases q' with
    |cons p2 q2=>
     cases q2;exact⟨_,_,_,rfl,p,p',p2⟩
 refine JH ?_ (by show 3<=sizeLine;decide)
 have I2:Inv X pins σ H1 { s1 with heap:=s1.heap.push { cls:=.type "tuple",data:=.seq [u1,u2,u3].toArray } }:=I1.kept (t':=s1.toks) λb o e=>Qc _ e
 rw[hw];refine wpAny_bind (Qm ?_);show wpAny (model X.prog X.w) X.A (do rule "assign.swapped-stores";let items <- unpackItems (.ref s1.heap.objs.size) 3 none;assignInOrder [λv=>bindName X.env z v,λv=>bindName X.env y v,λv=>bindName X.env x v] items.reverse;pure Qju) _ _ _;refine wpAny_bind (wpAny_rule (wpAny_bind (QvS (items:=#[u1,u2,u3]) (I.ok.hd hc) (IsTup.new s1.heap _) λh' hx'=>?_)));have I3:=I2.kept (h':=h') (t':=s1.toks) λb o e=>hx' b o (QC (Qk e)) e
 show wpAny _ _ (assignInOrder [λv=>bindName X.env z v,λv=>bindName X.env y v,λv=>bindName X.env x v] [u3,u2,u1] >>= λ_=>pure Qju) _ _ _;refine wpAny_bind (Z2 (QbA (QaJ I3 hN hk (.inl hz) rz (λs2 I4=>?_) (.inr hz))));refine Z2 (QbA (QaJ I4 hN hj (.inl hy) rw' (λs3 I5=>?_) (.inr hy)));refine Z2 (QbA (QaJ I5 hN hi (.inl hx) rv (λs4 I6=>QfD (Qm ?_)) (.inr hx)));have e:((σ.set k (some v3)).set j (some w)).set i (some v)=((σ.set i (some v)).set j (some w)).set k (some v3):=by
  rw[Qc1 _ _ (Qa9 hjk),Qc1 _ _ (Qa9 hik),Qc1 _ _ (Qa9 hij)]
 rw[e] at I6;exact⟨_,H1,I6,q1⟩
end
end L2
namespace Dl
open L2 _root_.Rd Rk
section
variable{X:Cx}{E:XK}{st:ZG}
def Qu5(i j k:Nat)(wa:DAr):DS:=λD δ=>wa δ (λds=>match ds with
 |[a,b,c]=>D.nx (((δ.set i (.v a)).set j (.v b)).set k (.v c))
 |_=>False) D.ex
theorem Qm3{n i j k:Nat}{wa:DAr}(h:PS X st (Qtm i j k (tAr n .D X.K E wa))):PS X st (tS X.K E (Qu5 i j k wa)):=by
 refine PS.imp h λD σ H ⟨F,δ,DD,rel,hw,en⟩=>?_
 refine⟨F,δ,_,DD.ex,rel,hw,λds hds _ vs H' rel' kp q=>?_,en.ex⟩;split at hds
 ·cases q with
  |cons q1 q2=>cases q2 with
   |cons q2 q3=>cases q3 with
    |cons q3 q4=>
     cases q4;refine⟨_,_,_,rfl,en.nx.go _ hds _ H' (((rel'.setv q1).setv (DA.mv q2 (λ_ _ _ e=>e) λa z=>.inl (Qbp z))).setv (DA.mv q3 (λ_ _ _ e=>e) λa z=>.inl (Qbp (Qbp z)))) ((((Stp.kp kp).trans Stp.setv).trans Stp.setv).trans Stp.setv)⟩
 ·exact hds.elim
theorem Qp0(i j k:Nat){x y z:Str}{a b c:QR}{n:Nat}{wa:DAr}{pos px py pz pt:Pos}{kt k2 pt2}(ha:QA n .D X E [a,b,c] wa)(hN:X.N.Nodup)(hc:X.calm=true:=by rfl)(hi:X.N[i]? = some x:=by rfl)(hj:X.N[j]? = some y:=by rfl)(hk:X.N[k]? = some z:=by rfl)(hij:i≠j:=by decide)(hik:i≠k:=by decide)(hjk:j≠k:=by decide)(hx:X.env.scope.names.lookup x=some .local:=by rfl)(hy:X.env.scope.names.lookup y=some .local:=by rfl)(hz:X.env.scope.names.lookup z=some .local:=by rfl)(hw:swappedStores [.Tuple [.Name x px,.Name y py,.Name z pz] kt pt] (.Tuple [a,b,c] k2 pt2) X.env=pure (some [x,y,z]):=by rfl)(hs:swapsWithSole [.Tuple [.Name x px,.Name y py,.Name z pz] kt pt] (.Tuple [a,b,c] k2 pt2) pos.line X.env=pure false:=by rfl):QS X E (.Assign [.Tuple [.Name x px,.Name y py,.Name z pz] kt pt] (.Tuple [a,b,c] k2 pt2) pos) (Qu5 i j k wa):=⟨Qm3 (Qp9 hc hN hi hj hk hij hik hjk hx hy hz ha.h hw hs)⟩
end
end Dl
namespace Rk
open L2 _root_.Rd
def top(i:Nat):ZG:=PySem.Challenge.pw_rooklands_k05_whole_boards.main.body.getD i (.Pass ⟨0,0,0,0⟩)
abbrev Qeb:ZG:=top 7
abbrev Qcz:ZG:=top 8
abbrev QcA:ZG:=top 9
abbrev Qeg:ZG:=top 12
abbrev Qef:ZG:=top 13
abbrev Qed:ZG:=top 14
abbrev QiM:ZG:=top 15
abbrev Qec:ZG:=top 16
abbrev sIsO:ZG:=top 17
abbrev sLed:ZG:=top 18
abbrev QcB:ZG:=top 19
abbrev Qee:ZG:=top 20
abbrev QiO:ZG:=top 21
abbrev sWl:ZG:=top 22
abbrev sOth:ZG:=top 23
abbrev sCnt:ZG:=top 25
abbrev QiP:ZG:=top 26
abbrev QiL:ZG:=top 27
abbrev sRow:ZG:=top 28
abbrev Qbu:ZG:=top 33
abbrev ZL:ZG:=top 34
abbrev QiN:ZG:=top 35
abbrev sAre:ZG:=top 36
abbrev sHas:ZG:=top 37
abbrev QcL:ZG:=top 39
abbrev lPot:ZG:=top 40
abbrev Qi2:ZG:=top 41
abbrev Qet:ZG:=top 42
abbrev Qes:ZG:=top 43
abbrev Qi3:ZG:=top 44
abbrev Qer:ZG:=top 45
abbrev sLaw:ZG:=top 46
section
variable{P:Qz}{w:Jf}{K:PySem.W.Frag}{mg:Str->Option Value}{base:JR}
theorem QmD:Jq ["_law_script", "_law_k"] ["_law_script", "_law_k"] (Qt QcL):=⟨rfl,rfl,rfl,by decide +kernel,rfl,by decide +kernel,by decide +kernel⟩
theorem QkS{f:Addr}{fd:QN}(F:Fun K "_law_cell_at" "_law_cell_at" QcL f fd)(T:GlbA mg):FnOk P w K mg base CX0 1 f fd ["_law_script", "_law_k"] (Qb5 K):=by
 refine F.ok QmD (λvs H Q E h=>?_) (λcdv A outer s H vs Q E hr h=>?_)
 ·obtain⟨a,ns,k,rfl,_⟩:=h;rfl
 ·obtain⟨a,ns,n,rfl,hs,hl,h0,k⟩:=h;refine⟨_,Zs (QiS (Qbl Qnk (pv 1) (Z4 YE (by rfl) T.len YF (JD (pv 0) JA)) (J3 _)) (Z8 (Qal (Qe5 QcM (pv 0) (pv 1) (λ_ _=>rfl)))) QcG) (Z8 (Qal Zq)),?_⟩;refine⟨_,rfl,_,rfl,a,_,rfl,.inl hs,_,_,rfl,rfl,_,rfl,?_⟩;refine QxU (λhlt=>?_) (λ_=>k 0);have hlt':n<(ns.map V.int).length:=of_decide_eq_true hlt;rw[Qe] at hlt';obtain⟨j,rfl⟩:=Int.eq_ofNat_of_zero_le h0;have hj:j<ns.length:=by omega
  refine⟨_,rfl,_,rfl,a,_,_,.int ns[j],rfl,rfl,hs,Zd ?_,k _⟩;rw[Qr,Qf hj];rfl
theorem QiK:Jq ["_law_cell", "_law_number", "_law_j", "_law_more"] ["_law_cell"] (Qt lPot):=⟨rfl,rfl,rfl,by decide +kernel,rfl,by decide +kernel,by decide +kernel⟩
theorem Qun{f:Addr}{fd:QN}(F:Fun K "_law_pot" "_law_pot" lPot f fd)(T:GlbA mg):FnOk P w K mg base CX0 1 f fd ["_law_cell"] Qtr:=by
 refine F.ok QiK (λvs H Q E h=>?_) (λcdv A outer s H vs Q E hr h=>?_)
 ·obtain⟨c,rfl,_⟩:=h;rfl
 ·obtain⟨c,rfl,k⟩:=h;refine⟨_,Zs (QiS (Qbl QwW (pv 0) (QaL QoO Zq Zq) (J3 _)) (Z8 (Qal (QoK (JD (QaL Qgb (pv 0) (QaL QoO Zq Zq)) JA)))) QcG)
   (Zs (QbH (i:=1) QiK.nd rfl (Q1 rfl) Zq)
   (Zs (QoF Zl rfl (Qb9 (by rfl) T.range (JD Zq JA)) (Y3 (i:=2) QiK.nd rfl (Q1 rfl))
    (Zs (QbH (i:=3) QiK.nd rfl (Q1 rfl) (QaL Qgd (QaL Qem (QaL Qen (QaL Qen (QaL Qgd (pv 0) Zq) (QaL Qem Zq (pv 2))) Zq) Zq) Zq))
    (Zs (QbH (i:=3) QiK.nd rfl (Q1 rfl) (QaL Qgd (QaL Qen (QaL Qen (QaL Qem (pv 3) (pv 3)) (QaL Qem Zq (pv 2))) Zq) Zq))
    (Z8 (QbH (i:=1) QiK.nd rfl (Q1 rfl) (QaL Qen (QaL Qem (pv 1) Zq) (pv 3)))))))
   (Z8 (Qal (QoK (JD (pv 1) JA)))))),?_⟩
  refine⟨_,rfl,_,_,rfl,rfl,⟨by decide,by decide,by decide⟩,_,_,rfl,rfl,_,rfl,?_⟩;refine QxU (λ_=>?_) (λ_=>?_)
  ·exact⟨_,rfl,_,_,rfl,rfl,⟨by decide,by decide,by decide⟩,_,_,rfl,rfl,by show 1<=sizeLine;decide,λp hp=>k p _ hp⟩
  ·refine⟨64,rfl,by decide,by decide,Qlm (n:=64) (λi σ H2=>∃n v u,σ=[some (.int c),some (.int n),v,u]/\H2=H) ⟨0,none,none,rfl,rfl⟩ ?_ ?_⟩
   ·rintro i σ H2 hi ⟨n,v,u,rfl,rfl⟩;have b1:=Qii ((c % 2147483629+7919*(0+(i:Int))+1)*48271) (m:=2147483647) (by decide);refine⟨_,rfl,_,_,rfl,rfl,by show(0:Int)<2147483629;decide,_,rfl,_,_,rfl,rfl,.inl ⟨by decide,by decide⟩,_,_,rfl,rfl,_,_,rfl,rfl,_,_,rfl,rfl,.inr ⟨by decide,by decide⟩,_,_,rfl,rfl,by show(0:Int)<2147483647;decide,?_⟩;refine⟨_,rfl,_,rfl,_,_,rfl,rfl,.inl ⟨by omega,by omega⟩,_,rfl,_,_,rfl,rfl,.inl ⟨by decide,by decide⟩,_,_,rfl,rfl,_,_,rfl,rfl,_,_,rfl,rfl,by show(0:Int)<2147483587;decide,?_⟩;exact⟨_,rfl,_,_,rfl,rfl,.inr ⟨by decide,by decide⟩,_,rfl,_,_,rfl,rfl,_,_,_,rfl,rfl⟩
   ·rintro σ H2 ⟨n,v,u,rfl,rfl⟩;exact⟨_,rfl,by show 1<=sizeLine;decide,λp hp=>k p _ hp⟩
theorem Qox:Jq ["_law_pot_here", "_law_far", "_law_found"] ["_law_pot_here", "_law_far"] (Qt Qi2):=⟨rfl,rfl,rfl,by decide +kernel,rfl,by decide +kernel,by decide +kernel⟩
theorem QrR{f:Addr}{fd:QN}(F:Fun K "_law_take" "_law_take" Qi2 f fd)(T:GlbA mg):FnOk P w K mg base CX0 1 f fd ["_law_pot_here", "_law_far"] QhT:=by
 refine F.ok Qox (λvs H Q E h=>?_) (λcdv A outer s H vs Q E hr h=>?_)
 ·obtain⟨p,n,m,rfl,_⟩:=h;rfl
 ·obtain⟨p,n,m,rfl,hp,h0,h1,k⟩:=h;refine⟨_,Zs (QbH (i:=2) Qox.nd rfl (Q1 rfl) (QaL Qgd (Qe5 QcM (pv 0) Zq (λ_ _=>rfl)) (pv 1)))
   (Zs (QoG (QaL Qnl (Qe5 QcM (pv 0) Zq (λ_ _=>rfl)) (pv 1)) (QtV (pv 0) Zq QhU))
   (Z8 (Qal (pv 2)))),?_⟩
  have b:=Qii n h0;exact⟨_,rfl,p,_,_,_,rfl,rfl,SqL.of hp,rfl,_,rfl,_,_,rfl,rfl,h0,_,rfl,p,_,_,_,rfl,rfl,SqL.of hp,rfl,_,rfl,_,_,rfl,rfl,⟨h0,h1⟩,_,rfl,p,_,_,_,rfl,rfl,hp,rfl,_,rfl,k _ _ b.1 b.2⟩
end
end Rk
namespace Rk
open L2 _root_.Rd
open Dl
open Rt
def QpE:DF:=λargs R _=>∃(h w:Nat)(f:Nat->Nat->Bool),args=[.v (bdD h w (cellsF h w f))]/\h<=6/\w<=6/\R (bdD w h (cellsF w h (tF f)))
def Qwt(b:Bool)(o:List Nat):Qb:=if b=true then .tuple (YQ o) else .list (YQ o)
def QfC(f:Nat->Nat->Bool)(rs ms:List Nat):Nat->Nat->Bool:=λr c=>f (rs.getD r 0) (ms.getD c 0)
def Qw8(f:Nat->Nat->Bool)(rs ms:List Nat):Qb:=bdD rs.length ms.length (cellsF rs.length ms.length (QfC f rs ms))
def Qxe:DF:=λargs R _=>∃(h w:Nat)(f:Nat->Nat->Bool),args=[.v (bdD h w (cellsF h w f))]/\1<=h/\h<=6/\1<=w/\w<=6/\R (.bool true)
def Qnh:DF:=λargs R _=>∃(b:Bool)(h w:Nat)(f:Nat->Nat->Bool)(rs ms:List Nat),args=[.v (bdD h w (cellsF h w f)),.v (Qwt b rs),.v (Qwt b ms)]/\rs.length<=6/\ms.length<=6/\(∀x∈rs,x<h)/\(∀x∈ms,x<w)/\R (Qw8 f rs ms)
def Qr7:DF:=λargs R _=>∃(h w:Nat)(f:Nat->Nat->Bool)(rs ms:List Nat),args=[.v (bdD h w (cellsF h w f)),.v (tNn rs),.v (tNn ms)]/\h<=6/\w<=6/\rs∈YH h h/\ms∈YH w w/\R (bdD h w (cellsF h w (QfC f rs ms)))
def QkY:DF:=λargs R _=>∃(n:Nat)(o:List Nat),args=[.v (.int n),.v (tNn o)]/\o.Pairwise (· < ·)/\(∀x∈o,x<n)/\R (.bool true)
def Qhe:DF:=λargs R _=>∃(h w:Nat)(cs:List (Int×Int))(a b:List Nat),args=[.v (bdD h w cs),.v (.tuple [tNn a,tNn b])]/\a.Pairwise (· < ·)/\(∀x∈a,x<h)/\b.Pairwise (· < ·)/\(∀x∈b,x<w)/\R (.bool true)
def Qwl:DF:=λargs R _=>∃(h w:Nat)(f:Nat->Nat->Bool)(a b:List Nat),args=[.v (bdD h w (cellsF h w f)),.v (.tuple [tNn a,tNn b])]/\h<=6/\w<=6/\a.Pairwise (· < ·)/\(∀x∈a,x<h)/\b.Pairwise (· < ·)/\(∀x∈b,x<w)/\oth h a≠[]/\oth w b≠[]/\R (Qw8 f (oth h a) (oth w b))
theorem QeY:∀(ds:List Qb),ds.Pairwise (λa b=>ltD a b=true)->QfZ ds=true
 |[],_=>rfl
 |[x],_=>rfl
 |x::y::r,h=>by
  have h:=List.pairwise_cons.mp h;show(ltD x y&&QfZ (y::r))=true;rw[h.1 y (.head _),QeY (y::r) h.2];rfl
theorem Qsv{h w:Nat}{f:Nat->Nat->Bool}:QxV h w (.tuple ((cellsF h w f).map pairD))=true:=by
 show(((cellsF h w f).map pairD).all (Qsa h w)&&QfZ ((cellsF h w f).map pairD))=true;rw[Jy];refine⟨JL.mpr λd hd=>?_,QeY _ (Zw.mpr ((pw_cellsF w f h).imp λ{a b} hp=>by rw[QnC];exact decide_eq_true hp))⟩;obtain⟨p,hp,rfl⟩:=QF.mp hd;have:=YD hp;exact QuK this.1 this.2.1 this.2.2.1 this.2.2.2
theorem Qr4(a b:Nat):ltD (.int (a:Int)) (.int (b:Int))=decide (a<b):=by
 show isL (Ql8 (a:Int) (b:Int))=_;unfold Ql8;by_cases h:a<b
 ·rw[if_pos (by omega),decide_eq_true h];rfl
 ·rw[if_neg (by omega),decide_eq_false h];split<;>rfl
theorem QtC{o:List Nat}(h:o.Pairwise (· < ·)):QfZ (YQ o)=true:=QeY _ (Zw.mpr (h.imp λ{a b} hp=>by rw[Qr4];exact decide_eq_true hp))
theorem Qxv(o:List Nat):Ql1 (YQ o):=λx hx=>by
 obtain⟨a,_,rfl⟩:=QF.mp hx;refine⟨rfl,Js _,λy hy=>?_⟩;obtain⟨b,_,rfl⟩:=QF.mp hy;rfl
theorem QnL(t:List Nat):YQ t=(t.map λ(y:Nat)=>(y:Int)).map Qs:=by unfold YQ;rw[Jo];rfl
theorem Qw5{h w:Nat}{f:Nat->Nat->Bool}{r c:Nat}(hr:r<h)(hc:c<w):decide (((r:Int),(c:Int))∈cellsF h w f)=f r c:=by
 rw[J7,decide_eq_true_eq,Yp];constructor
 ·rintro⟨r',c',_,_,hf,e⟩;have e1:(r:Int)=(r':Int):=(Y9 e).1;have e2:(c:Int)=(c':Int):=(Y9 e).2;rw[show r=r' by omega,show c=c' by omega];exact hf
 ·intro hf;exact⟨r,c,hr,hc,hf,rfl⟩
def Qjx(cs:List (Int×Int))(cols:List Int)(r:Nat)(row:Int):List (Int×Int):=((Qg cols.length).filter λc=>decide ((row,cols.getD c 0)∈cs)).map λ(c:Nat)=>((r:Int),(c:Int))
def Qr6(cs:List (Int×Int))(rows cols:List Int):List (Int×Int):=(Qg rows.length).flatMap λr=>Qjx cs cols r (rows.getD r 0)
def QsU(cs:List (Int×Int))(r:Int)(i:Nat):Qb->Option Qb
 |.tuple [.int c,.int col]=>if(r,col)∈cs then some (pairD ((i:Int),c)) else none
 |_=>none
theorem QoT(cs:List (Int×Int))(cols:List Int)(i:Nat)(r:Int):(QdC (cols.map Qs)).filterMap (QsU cs r i)=(Qjx cs cols i r).map pairD:=by
 unfold QdC Qjx;rw[Yu,Qe,Jo];have key:∀l:List Nat,(∀j∈l,j<cols.length)->l.filterMap (QsU cs r i∘λ(j:Nat)=>Qaw [Qs j,(cols.map Qs).getD j .none])=(l.filter λc=>decide ((r,cols.getD c 0)∈cs)).map (pairD∘λ(c:Nat)=>((i:Int),(c:Int))):=λl=>by
  induction l with
  |nil=>intro _;rfl
  |cons j l ih=>
   intro hl;have hj:=hl j (.head _);have e:(cols.map Qs).getD j .none=Qs (cols.getD j 0):=by
    rw[Qi,Qr,Qi,Qf hj];rfl
   have e2:(QsU cs r i∘λ(j:Nat)=>Qaw [Qs j,(cols.map Qs).getD j .none]) j=if(r,cols.getD j 0)∈cs then some (pairD ((i:Int),(j:Int))) else none:=by
    show QsU cs r i (Qaw [Qs j,(cols.map Qs).getD j .none])=_;rw[e];rfl
   rw[Zh,e2];by_cases z:(r,cols.getD j 0)∈cs
   ·rw[if_pos z,Jd (by simpa using z),JT,ih λk hk=>hl k (.tail _ hk)];rfl
   ·rw[if_neg z,Je (by simpa using z),ih λk hk=>hl k (.tail _ hk)]
 exact key _ λj hj=>Qw.mp hj
theorem QnF(cs:List (Int×Int))(cols:List Int)(i:Nat)(r:Int):(Qjx cs cols i r).length<=cols.length:=by
 unfold Qjx;rw[Qe];have:=QbX (λc=>decide ((r,cols.getD c 0)∈cs)) (Qg cols.length);rw[Qv] at this;exact this
theorem Qfc(cs:List (Int×Int))(cols:List Int)(g:Nat->Int):∀n,((Qg n).flatMap λr=>Qjx cs cols r (g r)).length<=n*cols.length
 |0=>by simp
 |n+1=>by
  rw[J6,ZC,QM];have h1:=Qfc cs cols g n;have h2:=QnF cs cols n (g n);have h3:([n].flatMap λr=>Qjx cs cols r (g r)).length=(Qjx cs cols n (g n)).length:=by simp
  rw[h3,Nat.add_mul];omega
def QmQ(cs:List (Int×Int))(cols:List Int):Qb->List Qb
 |.tuple [.int i,.int r]=>(Qjx cs cols i.toNat r).map pairD
 |_=>[]
theorem Qe4(cs:List (Int×Int))(rows cols:List Int):(QdC (rows.map Qs)).flatMap (QmQ cs cols)=(Qr6 cs rows cols).map pairD:=by
 unfold QdC Qr6;rw[Qe];have key:∀l:List Nat,(∀j∈l,j<rows.length)->(l.map λ(i:Nat)=>Qaw [Qs i,(rows.map Qs).getD i .none]).flatMap (QmQ cs cols)=(l.flatMap λr=>Qjx cs cols r (rows.getD r 0)).map pairD:=λl=>by
  induction l with
  |nil=>intro _;rfl
  |cons j l ih=>
   intro hl;have hj:=hl j (.head _);have e:(rows.map Qs).getD j .none=Qs (rows.getD j 0):=by
    rw[Qi,Qr,Qi,Qf hj];rfl
   rw[JT,YK,ih λk hk=>hl k (.tail _ hk),e,YK,Zg];rfl
 exact key _ λj hj=>Qw.mp hj
theorem Qw7{h w:Nat}{f:Nat->Nat->Bool}{rs ms:List Nat}(hr:∀x∈rs,x<h)(hm:∀x∈ms,x<w):Qr6 (cellsF h w f) (rs.map λ(x:Nat)=>(x:Int)) (ms.map λ(x:Nat)=>(x:Int))=cellsF rs.length ms.length (QfC f rs ms):=by
 have e:Qr6 (cellsF h w f) (rs.map λ(x:Nat)=>(x:Int)) (ms.map λ(x:Nat)=>(x:Int))=cellsF (rs.map λ(x:Nat)=>(x:Int)).length (ms.map λ(x:Nat)=>(x:Int)).length λr c=>decide (((rs.map λ(x:Nat)=>(x:Int)).getD r 0,(ms.map λ(x:Nat)=>(x:Int)).getD c 0)∈cellsF h w f):=rfl
 rw[e,Qe,Qe];refine Qbn λr c hr' hc'=>?_
 have g:∀(l:List Nat)(i:Nat),i<l.length->(l.map λ(x:Nat)=>(x:Int)).getD i 0=((l.getD i 0:Nat):Int)/\l.getD i 0∈l:=λl i hi=>by
  rw[Qi,Qr,Qi,Qf hi];exact⟨rfl,ZJ hi⟩
 rw[(g rs r hr').1,(g ms c hc').1,Qw5 (hr _ (g rs r hr').2) (hm _ (g ms c hc').2)];rfl
section
variable{P:Qz}{w:Jf}{K:PySem.W.Frag}{mg:Str->Option Value}{base:JR}
theorem Qmy:Jq ["thing"] ["thing"] (Qt Qeb):=⟨rfl,rfl,rfl,by decide +kernel,rfl,by decide +kernel,by decide +kernel⟩
theorem Qnn{f   : Addr}{fd  : QN}(F:Fun K "is_whole" "is_whole" Qeb f fd)(T:GlbA mg) :
  FnOk P w K mg base CX0 1 f fd ["thing"] (Zb false QjK):=by
 refine okQ false F Qmy (λargs R EX h=>?_) (λcdv A outer s H E hr=>?_)
 ·obtain⟨d,rfl,_⟩:=h;rfl
 ·have hU:=Room.u60 hr;have hI:=Room.i60 hr;refine⟨_,Jc (Zp (Qg3 (Q7 (QcV .int (by rfl) T.isinstance (qp 0) (by rfl) T.int Qvh)) (Qg2 (QwE (Q7 (QcV .bool (by rfl) T.isinstance (qp 0) (by rfl) T.bool QsC)))))),λargs R EX h=>?_⟩;obtain⟨d,rfl,hR⟩:=h;cases d<;>exact hR
theorem Qj4:Jq ["thing", "least", "most"] ["thing", "least", "most"] (Qt Qcz):=⟨rfl,rfl,rfl,by decide +kernel,rfl,by decide +kernel,by decide +kernel⟩
theorem QkN{f f1  : Addr}{fd fd1:QN}(F:Fun K "is_whole_within" "is_whole_within" Qcz f fd)(T:GlbA mg)
  (m1:mg "is_whole" = some (.ref f1))(G1:FnOk P w K mg base CX0 1 f1 fd1 ["thing"] (Zb false QjK))(b1:Binds K fd1 ["thing"] [])(k1:PySem.W.keepIn K (.ref f1)=true) :
  FnOk P w K mg base CX0 2 f fd ["thing", "least", "most"] (Zb false Qcw):=by
 refine okQ false F Qj4 (λargs R EX h=>?_) (λcdv A outer s H E hr=>?_)
 ·obtain⟨d,a,b,rfl,_⟩:=h;rfl
 ·have hU:=Room.u60 hr;have hI:=Room.i60 hr;refine⟨_,Jc (Zp (Qg3 (Jn (Jp G1 (hr.mono (by decide)) (by rfl) m1 k1 b1 JG (JW (qv 0) Q6))) (Qg2 (Zn (Qys QrJ QrJ (qp 1) (qp 0) (qp 2)))))),λargs R EX h=>?_⟩;obtain⟨d,a,b,rfl,hR⟩:=h;refine⟨d,rfl,?_⟩;cases d with
  |int i=>exact Qgk (Qvk hR)
  |_=>exact hR
theorem Qep:(["one", "other"]:List Str).Nodup:=by decide +kernel
theorem Qj5:Jq ["things"] ["things"] (Qt QcA):=⟨rfl,rfl,rfl,by decide +kernel,rfl,by decide +kernel,by decide +kernel⟩
theorem QkO{f   : Addr}{fd  : QN}(F:Fun K "is_rising" "is_rising" QcA f fd)(T:GlbA mg) :
  FnOk P w K mg base CX0 1 f fd ["things"] (Zb false QeX):=by
 refine okQ false F Qj5 (λargs R EX h=>?_) (λcdv A outer s H E hr=>?_)
 ·obtain⟨ds,rfl | rfl,_⟩:=h<;>rfl
 ·have hU:=Room.u60 hr;have hI:=Room.i60 hr;refine⟨_,Jc (Y2 (Zr Qbz (Qiq rfl) (by rfl) T.all Qey (QbO (Q7 (QaZ ["one", "other"] [none,none] (Qp4 (Qp2 (by rfl) T.zip (qp 0) (Q7 (Qe2 (qp 0) (QeZ (Jn JO)) Qe0))) (Qp3 (by rfl) T.zip (qp 0) (Q7 (Qe2 (qp 0) (QeZ (Jn JO)) Qe0)))) (λcl ex s3 H3 C=>⟨(Qbj rfl (JV 0 (JV 1 Qbk Qep rfl (Q1 rfl) (QY rfl)) Qep rfl (Q1 rfl) (QY rfl))),Qar,(Zn (Qf5 (Quf hU) Quw (qp 0) (qp 1) (J3 _)))⟩))) Jw))),λargs R EX h=>?_⟩;obtain⟨ds,h,hc,hR⟩:=h;have go:∀d∈QiB ds (Dl.cutD ds (some 1) none),∃a b,d=.tuple [a,b]/\(okK a=true/\okK b=true/\Ql7 a b=true/\a.depth<=20):=λd hd=>by
   obtain⟨i,hi⟩:=Jt.mp hd;obtain⟨a,b,ha,hb,rfl⟩:=Dl.zip_get hi;have ma:=Ji ha;have mb:=QnV (Ji hb);exact⟨a,b,rfl,(hc a ma).1,(hc b mb).1,(hc a ma).2.2 b mb,(hc a ma).2.1⟩
  rcases h with rfl | rfl
  ·refine .inl (Qci (λd=>.bool (QuA d)) (λd hd k2 hk=>?_) (QdL (items:=QiB ds (Dl.cutD ds (some 1) none)) rfl (by rw[Qdd];exact hR)));obtain⟨a,b,rfl,q⟩:=go d hd;exact⟨rfl,q,hk⟩
  ·refine .inr (Qci (λd=>.bool (QuA d)) (λd hd k2 hk=>?_) (QdL (items:=QiB ds (Dl.cutD ds (some 1) none)) rfl (by rw[Qdd];exact hR)));obtain⟨a,b,rfl,q⟩:=go d hd;exact⟨rfl,q,hk⟩
theorem Qmz:Jq ["high", "wide", "thing"] ["high", "wide", "thing"] (Qt Qed):=⟨rfl,rfl,rfl,by decide +kernel,rfl,by decide +kernel,by decide +kernel⟩
theorem Qnp{f f1  : Addr}{fd fd1:QN}(F:Fun K "is_place" "is_place" Qed f fd)(T:GlbA mg)
  (m1:mg "is_whole_within" = some (.ref f1))(G1:FnOk P w K mg base CX0 2 f1 fd1 ["thing", "least", "most"] (Zb false Qcw))(b1:Binds K fd1 ["thing", "least", "most"] [])(k1:PySem.W.keepIn K (.ref f1)=true) :
  FnOk P w K mg base CX0 3 f fd ["high", "wide", "thing"] (Zb false Qkq):=by
 refine okQ false F Qmz (λargs R EX h=>?_) (λcdv A outer s H E hr=>?_)
 ·obtain⟨h,w,d,rfl,_⟩:=h;rfl
 ·have hU:=Room.u60 hr;have hI:=Room.i60 hr;refine⟨_,QX (Qas (Qjw (QbN (Ya (YB (Q7 (QcV .tuple (by rfl) T.isinstance (qp 2) (by rfl) T.tuple Zv)))) (QaX (ZR YO (QbD hU) (Q7 (Zr ZZ QbJ (by rfl) T.len YF (QbO (qp 2) Jw))) (Jn JO) (J3 _))))) (Jc (Zp QfB)) Zj)
   (Jc (Zp (Qg3 (Jn (Jp G1 (hr.mono (by decide)) (by rfl) m1 k1 b1 JG (JW (QdU ZS Qae (qp 2) (Jn JO) (λ_ _=>rfl)) (JW JO (JW (Zn (Qad Qgb Qeo (qp 0) (Jn JO))) Q6))))) (Qg2 (Jp G1 (hr.mono (by decide)) (by rfl) m1 k1 b1 JG (JW (QdU ZS Qae (qp 2) (Jn JO) (λ_ _=>rfl)) (JW JO (JW (Zn (Qad Qgb Qeo (qp 1) (Jn JO))) Q6)))))))),λargs R EX h=>?_⟩
  obtain⟨h,w,d,rfl,hR⟩:=h;cases d with
  |tuple ds=>
   match ds,hR with
   |[a,b],hR=>
    refine⟨a,rfl,_,_,_,rfl,?_⟩;refine QlV hR λ_ hR=>?_
    exact⟨b,rfl,_,_,_,rfl,hR⟩
   |[],hR=>exact hR
   |[_],hR=>exact hR
   |a::b::c::r,hR=>
    exact hR
  |_=>exact hR
theorem Qk2:(["part", "high", "wide"]:List Str).Nodup:=by decide +kernel
theorem QmC:Jq ["high", "wide", "thing"] ["high", "wide", "thing"] (Qt Qef):=⟨rfl,rfl,rfl,by decide +kernel,rfl,by decide +kernel,by decide +kernel⟩
theorem Qns{f f1 f2  : Addr}{fd fd1 fd2:QN}(F:Fun K "is_cells" "is_cells" Qef f fd)(T:GlbA mg)
  (m1:mg "is_place" = some (.ref f1))(G1:FnOk P w K mg base CX0 3 f1 fd1 ["high", "wide", "thing"] (Zb false Qkq))(b1:Binds K fd1 ["high", "wide", "thing"] [])(k1:PySem.W.keepIn K (.ref f1)=true)
  (m2:mg "is_rising" = some (.ref f2))(G2:FnOk P w K mg base CX0 1 f2 fd2 ["things"] (Zb false QeX))(b2:Binds K fd2 ["things"] [])(k2:PySem.W.keepIn K (.ref f2)=true) :
  FnOk P w K mg base CX0 4 f fd ["high", "wide", "thing"] (Zb false QlG):=by
 refine okQ false F QmC (λargs R EX h=>?_) (λcdv A outer s H E hr=>?_)
 ·obtain⟨h,w,d,rfl,_⟩:=h;rfl
 ·have hU:=Room.u60 hr;have hI:=Room.i60 hr;refine⟨_,QX (Qas (Ya (YB (Q7 (QcV .tuple (by rfl) T.isinstance (qp 2) (by rfl) T.tuple Zv)))) (Jc (Zp QfB)) Zj)
   (Jc (Zp (Qg3 (Q7 (Zr Qbz (Qiq rfl) (by rfl) T.all Qey (QbO (Q7 (QaZ ["part", "high", "wide"] [none,some 0,some 1] (Qf3 (qp 2)) (λcl ex s3 H3 C=>⟨(ZT 0 Qk2 rfl (Q1 rfl) (QY rfl)),Qar,(Jp G1 (hr.mono (by decide)) (by rfl) m1 k1 b1 JG (JW (qv 1) (JW (qv 2) (JW (qv 0) Q6))))⟩))) Jw))) (Qg2 (Jp G2 (hr.mono (by decide)) (by rfl) m2 k2 b2 JG (JW (qv 2) Q6)))))),λargs R EX h=>?_⟩
  obtain⟨h,w,d,rfl,hR⟩:=h;cases d with
  |tuple ds=>
   refine Qci (λd=>.bool (Qsa h w d)) (λd hd k2 hk=>⟨_,_,_,rfl,hk⟩) (QdL (items:=ds) rfl ?_);refine QlV hR λha hR=>?_
   obtain⟨L,rfl,_⟩:=QmO ha;exact⟨_,.inl rfl,Qgt L,hR⟩
  |_=>exact hR
theorem QpR:Jq ["board"] ["board"] (Qt QiP):=⟨rfl,rfl,rfl,by decide +kernel,rfl,by decide +kernel,by decide +kernel⟩
theorem QrU{f   : Addr}{fd  : QN}(F:Fun K "most_size" "most_size" QiP f fd)(T:GlbA mg) :
  FnOk P w K mg base CX0 1 f fd ["board"] (Zb false Qr1):=by
 refine okQ false F QpR (λargs R EX h=>?_) (λcdv A outer s H E hr=>?_)
 ·obtain⟨h,w,cs,rfl,_⟩:=h;rfl
 ·have hU:=Room.u60 hr;have hI:=Room.i60 hr;refine⟨_,Jc (Y2 (Zr (Qgv rfl) Qn0 (by rfl) T.min Qpf (QbO (Jn (QdU ZS Qae (qp 0) (Jn JO) (λ_ _=>rfl))) (QbO (Jn (QdU ZS Qae (qp 0) (Jn JO) (λ_ _=>rfl))) Jw)))),λargs R EX h=>?_⟩;obtain⟨h,w,cs,rfl,hR⟩:=h;exact⟨_,Zd (j:=0) rfl,_,Zd (j:=1) rfl,Qr2 (by split<;>omega) hR⟩
theorem Qcy:Jq ["below", "columns", "taken", "ways", "column", "bit", "size", "many"] ["below", "columns", "taken"] (Qt sRow):=⟨rfl,rfl,rfl,by decide +kernel,rfl,by decide +kernel,by decide +kernel⟩
theorem QrO{f   : Addr}{fd  : QN}(F:Fun K "ways_with_row" "ways_with_row" sRow f fd)(T:GlbA mg) :
  FnOk P w K mg base CX0 1 f fd ["below", "columns", "taken"] (Zb true Qpx):=by
 refine okQ true F Qcy (λargs R EX h=>?_) (λcdv A outer s H E hr=>?_)
 ·obtain⟨h,w,B,cols,t,rfl,_⟩:=h;rfl
 ·have hU:=Room.u60 hr;have hI:=Room.i60 hr;refine⟨_,QX (Qdk 3 (YS Qfl Qsz (by rfl) T.list QlM (QbO (Jn (QdU ZS Qae (qp 0) (qp 2) (λ_ _=>rfl))) Jw)) Qcy.nd)
   (QX (Qek Zl rfl (Qp5 (qv 1)) (ZT 4 Qcy.nd rfl (by first | exact Q1 rfl | exact QY rfl))
    (QX (Qaj 5 (Zn (Qad QkJ Qnt (Jn JO) (qp 4))) Qcy.nd)
   (Jc (Qas (Ya (Qh1 (Q7 (Qad Qum Qeo (qp 2) (qp 5))))) (Jc (Qek Zl rfl (Qe1 (by rfl) T.enumerate (Zn (Qe2 (Jn (QdU ZS Qae (qp 0) (Q7 (Qad QwU Qeo (qp 2) (qp 5))) (λ_ _=>rfl))) Qe0 (QeZ (Q7 (QwF (Jn JO))))))) (Qbj rfl (JV 6 (JV 7 Qbk Qcy.nd rfl (by first | exact Q1 rfl | exact QY rfl)) Qcy.nd rfl (by first | exact Q1 rfl | exact QY rfl)))
    (Jc (Qp1 3 QuM QrX (Q7 (Qad QaM Qcd (qp 6) (Jn JO))) (qp 7))))) Zj))))
   (Jc (Qkk 3))),λargs R EX h=>?_⟩
  obtain⟨h,w,B,cols,t,rfl,ht,hc,h6,w6,hR⟩:=h;refine⟨_,Zd (QgW ht),?_⟩;refine QdA (λj δ=>∃ds x4 x5 x6 x7,δ=[.v (.list (QiH h w B)),.v (.list (YQ cols)),.v (.int t),.own ds,x4,x5,x6,x7]/\ds=Qc6 h (QeO B (cols.take j) t)) ⟨_,_,_,_,_,rfl,Qaz λk _=>?_⟩ ?_ ?_
  ·show B t k=B t k+if k=0 then 0 else 0
   split<;>omega
  ·rintro j d δ hd ⟨ds,x4,x5,x6,x7,rfl,rfl⟩;unfold YQ at hd;rw[Qr] at hd;obtain⟨c,ec,rfl⟩:∃c:Nat,cols[j]? = some c/\d=.int (c:Int):=by
    cases e:cols[j]? with
    |none=>rw[e] at hd;cases hd
    |some p=>rw[e] at hd;cases hd;exact⟨p,rfl,rfl⟩
   have hcw:=hc c (Ji ec);have et:cols.take (j+1)=cols.take j++[c]:=by rw[YJ,ec];rfl
   refine⟨⟨by omega,by omega,by decide⟩,trivial,?_⟩;show if(!tru (.int (QbZ (t:Int) (1*2^((c:Nat):Int).toNat))))=true then _ else _
   rw[QsG ht hcw w6];cases hb:t.testBit c with
   |true=>
    have np:(2:Int)^c≠0:=by
     have:(0:Int)<2^c:=Int.pow_pos (by decide);omega
    rw[if_pos rfl];refine ifF ?_ ⟨_,_,_,_,_,rfl,Qaz λk _=>?_⟩
    ·show(!((2:Int)^c != 0))=false;simp[np]
    ·unfold QeO;rw[et,Qdf,if_pos hb,QjE]
   |false=>
    refine ifT rfl ?_
    have olt:=QwT ht hcw;refine⟨.list (Qc6 h (B (t ||| 2^c))),?_,?_⟩
    ·show atI (QiH h w B) (Qcu (t:Int) (1*2^((c:Nat):Int).toNat))=_;rw[Qub ht hcw w6];exact Zd (QgW olt)
    ·show QsK (QdC (Dl.cutD (Qc6 h (B (t ||| 2^c))) none (some (-1)))) _ _ _ _;rw[QmH];refine QdA (λi δ=>∃ds x6 x7,δ=[.v (.list (QiH h w B)),.v (.list (YQ cols)),.v (.int t),.own ds,.v (.int c),.v (.int (1*2^((c:Nat):Int).toNat)),x6,x7]/\ds=Qc6 h (λk=>QeO B (cols.take j) t k+if 1<=k/\k<=i then B (t ||| 2^c) (k - 1) else 0)) ⟨_,_,_,rfl,Qaz λk _=>?_⟩ ?_ ?_
     ·rw[if_neg (by omega),QjE]
     ·rintro i d δ hd ⟨ds,x6,x7,rfl,rfl⟩;obtain⟨e,he,rfl⟩:=QaP hd;rw[Qr] at he;have hi:i<h:=by
       by_cases z:i<h
       ·exact z
       ·rw[Q2 (by rw[Qv];omega)] at he;cases he
      rw[Q9 hi] at he;cases he;refine⟨rfl,i+1,_,?_,QcC (by omega),_,_,_,rfl,?_⟩
      ·rw[Qbv];exact Qr9 (k:=i+1) (by omega)
      ·rw[QmF (by omega)];refine Qaz λk hk=>?_
       show(if k=i+1 then(QeO B (cols.take j) t (i+1)+if 1<=i+1/\i+1<=i then B (t ||| 2^c) (i+1 - 1) else 0)+B (t ||| 2^c) i else QeO B (cols.take j) t k+if 1<=k/\k<=i then B (t ||| 2^c) (k - 1) else 0)=QeO B (cols.take j) t k+if 1<=k/\k<=i+1 then B (t ||| 2^c) (k - 1) else 0
       by_cases z:k=i+1
       ·subst z;rw[if_pos rfl,if_neg (by omega),if_pos (by omega),Yz,QjE]
       ·rw[if_neg z];by_cases z2:1<=k/\k<=i
        ·rw[if_pos z2,if_pos (by omega)]
        ·rw[if_neg z2,if_neg (by omega)]
     ·rintro δ ⟨ds,x6,x7,rfl,rfl⟩;rw[QaO,Qe,Qv];refine⟨_,_,_,_,_,rfl,Qaz λk hk=>?_⟩;unfold QeO;rw[et];by_cases z:k=0
      ·subst z;rw[if_pos rfl,if_neg (by omega),if_pos rfl];omega
      ·rw[if_neg z,if_neg z,if_pos (by omega),Qdf,if_neg (by rw[hb];decide)];omega
  ·rintro δ ⟨ds,x4,x5,x6,x7,rfl,rfl⟩;unfold YQ;rw[Qe,ZI];exact hR
theorem Qnx:(["taken", "high"]:List Str).Nodup:=by decide +kernel
theorem Qh9:(["at", "column", "row"]:List Str).Nodup:=by decide +kernel
theorem Qnw:(["taken", "columns", "table"]:List Str).Nodup:=by decide +kernel
theorem QbL:Jq ["board", "high", "wide", "cells", "table", "row", "columns"] ["board"] (Qt QiL):=⟨rfl,rfl,rfl,by decide +kernel,rfl,by decide +kernel,by decide +kernel⟩
theorem QrP{f f1  : Addr}{fd fd1:QN}(F:Fun K "ways_to_go_on" "ways_to_go_on" QiL f fd)(T:GlbA mg)
  (m1:mg "ways_with_row" = some (.ref f1))(G1:FnOk P w K mg base CX0 1 f1 fd1 ["below", "columns", "taken"] (Zb true Qpx))(b1:Binds K fd1 ["below", "columns", "taken"] [])(k1:PySem.W.keepIn K (.ref f1)=true) :
  FnOk P w K mg base CX0 2 f fd ["board"] (Zb true QpA):=by
 refine okQ true F QbL (λargs R EX h=>?_) (λcdv A outer s H E hr=>?_)
 ·obtain⟨h,w,cs,rfl,_⟩:=h;rfl
 ·have hU:=Room.u60 hr;have hI:=Room.i60 hr;refine⟨_,QX (Qf2 (qv 0) (Qbj rfl (JV 1 (JV 2 (JV 3 Qbk QbL.nd rfl (by first | exact Q1 rfl | exact QY rfl)) QbL.nd rfl (by first | exact Q1 rfl | exact QY rfl)) QbL.nd rfl (by first | exact Q1 rfl | exact QY rfl))))
   (QX (Qdk 4 (Qf4 (Qak (Zn (QaZ ["taken", "high"] [none,some 1] (QaK (by rfl) T.range (Q7 (Qad QkJ Qnt (Jn JO) (qp 2)))) (λcl ex s3 H3 C=>⟨(ZT 0 Qnx rfl (Q1 rfl) (QY rfl)),Qar,(Zn (Qad QaM Qcd (Q7 (Qf4 (Qak JO Jw))) (Q7 (Qad Qha QkW (Q7 (Qf4 (Qak JO Jw))) (qp 1)))))⟩))) Jw)) QbL.nd)
   (QX (Qek Zl rfl (Qp6 (by rfl) T.reversed (by rfl) T.range (qp 1)) (ZT 5 QbL.nd rfl (by first | exact Q1 rfl | exact QY rfl))
    (QX (Qaj 6 (Zn (QaZ ["at", "column", "row"] [none,none,some 5] (Qf3 (qp 3)) (λcl ex s3 H3 C=>⟨(Qbj rfl (JV 0 (JV 1 Qbk Qh9 rfl (Q1 rfl) (QY rfl)) Qh9 rfl (Q1 rfl) (QY rfl))),(QcD (ZR Qdp (Qhb hU) (qp 0) (qp 2) (J3 _))),(qv 1)⟩))) QbL.nd)
   (Jc (QtM 4 JO (Zn (QaZ ["taken", "columns", "table"] [none,some 6,some 4] (QaK (by rfl) T.range (Q7 (Qad QkJ Qnt (Jn JO) (qp 2)))) (λcl ex s3 H3 C=>⟨(ZT 0 Qnw rfl (Q1 rfl) (QY rfl)),Qar,(Zn (Z7 G1 (hr.mono (by decide)) (by rfl) m1 k1 b1 JG (JW (QdU ZS Qae (qp 2) (Jn JO) (λ_ _=>rfl)) (JW (qv 1) (JW (qv 0) Q6)))))⟩)))))))
   (Jc (Qkk 4)))),λargs R EX h=>?_⟩
  obtain⟨h,w,cs,rfl,h6,w6,hb,hR⟩:=h;refine⟨rfl,⟨by omega,by omega,by decide⟩,?_,Qci (λ_=>.list (Qs 1::Q4 h (.int 0))) (λd hd k2 hk=>?_) ?_⟩
  ·exact QoH w6
  ·refine⟨⟨by omega,by omega,by rw[QD];show 1*h<=_;omega⟩,?_⟩;rw[QD,QpV];refine⟨by rw[YU];show 1+h<=_;omega,hk⟩
  ·have e0:(QdT 0 (1*2^((w:Nat):Int).toNat:Int).toNat).map (λ_=>Zz (Qs 1::Q4 h (.int 0)))=QiH h w (Wc cs h 0):=by
    rw[Qe3,QD];unfold QdT QiH;rw[Jo];refine JY λt _=>?_
    show Zz _=Zz _;rw[QmG]
   rw[e0];refine⟨⟨by omega,by omega⟩,QdA (λi δ=>∃ds x5 x6,δ=[.v (bdD h w cs),.v (.int h),.v (.int w),.v (.tuple (cs.map pairD)),.own ds,x5,x6]/\ds=Qos cs h w i) ⟨_,_,_,rfl,rfl⟩ ?_ ?_⟩
   ·rintro i d δ hd ⟨ds,x5,x6,rfl,rfl⟩;obtain⟨hi,rfl⟩:=QhX hd;rw[QD] at hi;have er:((((h:Nat):Int).toNat:Nat):Int) - 1 - (i:Int)=((h - 1 - i:Nat):Int):=by omega
    rw[er];refine Qve (λd=>if(toP d).1=((h - 1 - i:Nat):Int) then some (.int (toP d).2) else none) (λd hd k1 k2 h1 h2=>?_) ?_
    ·obtain⟨p,_,rfl⟩:=QF.mp hd;have h1:(if p.1=((h - 1 - i:Nat):Int) then some (Qs p.2) else none)=none->k1:=h1;have h2:∀e,(if p.1=((h - 1 - i:Nat):Int) then some (Qs p.2) else none)=some e->k2 e:=h2
     refine⟨rfl,?_⟩;show if decide (p.1=((h - 1 - i:Nat):Int))=true then k2 (.int p.2) else k1
     by_cases z:p.1=((h - 1 - i:Nat):Int)
     ·rw[if_pos (decide_eq_true z)];exact h2 _ (if_pos z)
     ·rw[if_neg (by simpa using z)];exact h1 (if_neg z)
    ·rw[Qvc cs (h - 1 - i) λp hp=>(hb p hp).1];refine⟨⟨by omega,by omega,by decide⟩,?_,Qci (λd=>match d with | .int t=>.list (Qc6 h (Wc cs h (i+1) t.toNat)) | _=>.none) (λd hd k2 hk=>?_) ?_⟩
     ·exact QoH w6
     ·obtain⟨t,ht⟩:=Jt.mp hd;obtain⟨htl,rfl⟩:=QbM ht;rw[Qe3,QD] at htl;have hk:k2 (.list (Qc6 h (Wc cs h (i+1) (0+(t:Int)).toNat))):=hk;rw[show(0+(t:Int)).toNat=t by omega] at hk;refine⟨_,Zd (j:=0) (QjT cs h w i),h,w,Wc cs h i,QnY cs (h - 1 - i),t,by rw[show(0:Int)+(t:Int)=(t:Int) by omega],htl,λc hc=>Qss hb hc,h6,w6,hk⟩
     ·refine⟨by rw[QhQ];omega,_,_,_,rfl,?_⟩;show Zz _::Qos cs h w i=Zz (QiH h w (Wc cs h (i+1)))::Qos cs h w i
      congr 2
      rw[Qe3,QD];unfold QdT QiH;rw[Jo];refine JY λt _=>?_
      show Zz (Qc6 h (Wc cs h (i+1) (0+(t:Int)).toNat))=_;rw[show(0+(t:Int)).toNat=t by omega]
   ·rintro δ ⟨ds,x5,x6,rfl,rfl⟩;rw[QeW,QD];exact hR
theorem Qtx:Jq ["board"] ["board"] (Qt sCnt):=⟨rfl,rfl,rfl,by decide +kernel,rfl,by decide +kernel,by decide +kernel⟩
theorem Quu{f f1 f2  : Addr}{fd fd1 fd2:QN}(F:Fun K "counts" "counts" sCnt f fd)(T:GlbA mg)
  (m1:mg "ways_to_go_on" = some (.ref f1))(G1:FnOk P w K mg base CX0 2 f1 fd1 ["board"] (Zb true QpA))(b1:Binds K fd1 ["board"] [])(k1:PySem.W.keepIn K (.ref f1)=true)
  (m2:mg "most_size" = some (.ref f2))(G2:FnOk P w K mg base CX0 1 f2 fd2 ["board"] (Zb false Qr1))(b2:Binds K fd2 ["board"] [])(k2:PySem.W.keepIn K (.ref f2)=true) :
  FnOk P w K mg base CX0 3 f fd ["board"] (Zb true Qht):=by
 refine okQ true F Qtx (λargs R EX h=>?_) (λcdv A outer s H E hr=>?_)
 ·obtain⟨h,w,cs,rfl,_⟩:=h;rfl
 ·have hU:=Room.u60 hr;have hI:=Room.i60 hr;refine⟨_,Jc (Y2 (Qe2 (Jn (QdU ZS Qae (Jn (QdU ZS Qae (Q7 (Z7 G1 (hr.mono (by decide)) (by rfl) m1 k1 b1 JG (JW (qv 0) Q6))) (Jn JO) (λ_ _=>rfl))) (Jn JO) (λ_ _=>rfl))) Qe0 (QeZ (Q7 (Qad QaM Qcd (Jn (Jp G2 (hr.mono (by decide)) (by rfl) m2 k2 b2 JG (JW (qv 0) Q6))) (Jn JO)))))),λargs R EX h=>?_⟩;obtain⟨h,w,cs,rfl,h6,w6,hb,hR⟩:=h;refine⟨_,_,_,rfl,h6,w6,hb,_,Zd (j:=0) (QjT cs h w h),_,Zd (j:=0) (QgW (Nat.two_pow_pos w)),_,_,_,rfl,?_⟩;have e:Dl.cutD (Qc6 h (Wc cs h h 0)) none (some (((min h w:Nat):Int)+1))=QgN cs h w:=by
   rw[QnU _ _ (by omega)];unfold Qc6 QgN;rw[<- QhI,QsQ,show min (((min h w:Nat):Int)+1).toNat (h+1)=min h w+1 by omega]
  have hR:R (.list (QgN cs h w)):=hR;rw[<- e] at hR;exact hR
theorem QrZ:(["number", "numbers"]:List Str).Nodup:=by decide +kernel
theorem Qtu:Jq ["many", "numbers"] ["many", "numbers"] (Qt sOth):=⟨rfl,rfl,rfl,by decide +kernel,rfl,by decide +kernel,by decide +kernel⟩
theorem Quo{f   : Addr}{fd  : QN}(F:Fun K "others" "others" sOth f fd)(T:GlbA mg) :
  FnOk P w K mg base CX0 1 f fd ["many", "numbers"] (Zb false QwS):=by
 refine okQ false F Qtu (λargs R EX h=>?_) (λcdv A outer s H E hr=>?_)
 ·obtain⟨n,o,rfl,_⟩:=h;rfl
 ·have hU:=Room.u60 hr;have hI:=Room.i60 hr;refine⟨_,Jc (Y2 (QaZ ["number", "numbers"] [none,some 1] (QaK (by rfl) T.range (qp 0)) (λcl ex s3 H3 C=>⟨(ZT 0 QrZ rfl (Q1 rfl) (QY rfl)),(QcD (ZR Qgc (QrY hI) (qp 0) (qp 1) (by rfl))),(qv 0)⟩))),λargs R EX h=>?_⟩;obtain⟨n,o,rfl,n6,hR⟩:=h;refine⟨⟨by omega,by omega⟩,Qve (λd=>match d with | .int x=>if(!decide (x.toNat∈o))=true then some d else none | _=>none) (λd hd k1 k2 h1 h2=>?_) ?_⟩
  ·obtain⟨x,hx⟩:=Jt.mp hd;obtain⟨hx,rfl⟩:=QbM hx;have h1:(if(!decide ((0+(x:Int)).toNat∈o))=true then some (Qs (0+(x:Int))) else none)=none->k1:=h1;have h2:∀e,(if(!decide ((0+(x:Int)).toNat∈o))=true then some (Qs (0+(x:Int))) else none)=some e->k2 e:=h2
   rw[show(0+(x:Int)).toNat=x by omega] at h1 h2;have ei:YQ o=(o.map λ(y:Nat)=>(y:Int)).map Qs:=by unfold YQ;rw[Jo];rfl
   refine⟨⟨by rw[ei];exact Qcf _,rfl,by show Zk (.int _)<=50;unfold Zk;decide⟩,?_⟩;show if(!(YQ o).any λe=>QL e (.int (0+(x:Int))))=true then _ else k1
   rw[ei,QsF];have em:decide (0+(x:Int)∈o.map λ(y:Nat)=>(y:Int))=decide (x∈o):=decide_eq_decide.mpr (by
    rw[QF];constructor
    ·rintro⟨y,hy,e⟩;have e:(y:Int)=0+(x:Int):=e;rw[show x=y by omega];exact hy
    ·intro hx;exact⟨x,hx,by show(x:Int)=0+x;omega⟩)
   rw[em];by_cases z:(!decide (x∈o))=true
   ·rw[if_pos z];exact h2 _ (if_pos z)
   ·rw[if_neg z];exact h1 (if_neg z)
  ·have er:(QdT 0 ((n:Nat):Int).toNat).filterMap (λd=>match d with | .int x=>if(!decide (x.toNat∈o))=true then some d else none | _=>none)=YQ (oth n o):=by
    unfold QdT YQ oth;rw[QD,Yu];refine QnQ (p:=λx => !decide (x∈o)) λx _=>?_
    show(if(!decide ((0+(x:Int)).toNat∈o))=true then some (Qs (0+(x:Int))) else none)=if(!decide (x∈o))=true then some (Qs (x:Int)) else none
    rw[show(0+(x:Int)).toNat=x by omega,show(0:Int)+(x:Int)=(x:Int) by omega]
   rw[er];exact hR
theorem Qgg:(["row", "column", "cells", "wide"]:List Str).Nodup:=by decide +kernel
theorem Qb6:Jq ["board", "high", "wide", "cells", "left"] ["board"] (Qt Qec):=⟨rfl,rfl,rfl,by decide +kernel,rfl,by decide +kernel,by decide +kernel⟩
theorem Qno{f   : Addr}{fd  : QN}(F:Fun K "rest" "rest" Qec f fd)(T:GlbA mg) :
  FnOk P w K mg base CX0 1 f fd ["board"] (Zb false Qkd):=by
 refine okQ false F Qb6 (λargs R EX h=>?_) (λcdv A outer s H E hr=>?_)
 ·obtain⟨h,w,f,rfl,_⟩:=h;rfl
 ·have hU:=Room.u60 hr;have hI:=Room.i60 hr;refine⟨_,QX (Qf2 (qv 0) (Qbj rfl (JV 1 (JV 2 (JV 3 Qbk Qb6.nd rfl (by first | exact Q1 rfl | exact QY rfl)) Qb6.nd rfl (by first | exact Q1 rfl | exact QY rfl)) Qb6.nd rfl (by first | exact Q1 rfl | exact QY rfl))))
   (QX (Qh2 ["row", "column", "cells", "wide"] [none,none,some 3,some 2] 4 Qb6.nd (QnO 0) (QaK (by rfl) T.range (qp 1)) (λcl ex s3 H3 C=>⟨(ZT 0 Qgg rfl (Q1 rfl) (QY rfl)),Qar,(QaK (by rfl) T.range (qp 3)),(ZT 1 Qgg rfl (Q1 rfl) (QY rfl)),(QcD (ZR Qgc (QrY hI) (Q7 (QcE (Qak (qv 0) (Qak (qv 1) Jw)))) (qp 2) (by rfl))),(Zn (QcE (Qak (qv 0) (Qak (qv 1) Jw))))⟩))
   (Jc (Y2 (QcE (Qak (qv 1) (Qak (qv 2) (Qak (Zn (YS Za Qan (by rfl) T.tuple Zv (QbO (qp 4) Jw))) Jw))))))),λargs R EX h=>?_⟩
  obtain⟨h,w,f,rfl,h6,w6,hR⟩:=h;have fl:∀i,(cellsF i w (Qdq f)).length<=i*w:=QaC w (Qdq f)
  have e0:∀n:Nat,(QdT 0 n).flatMap (λd=>match d with | .int r=>(QbC r.toNat w (Qdq f)).map pairD | _=>[])=(cellsF n w (Qdq f)).map pairD:=λn=>by
   unfold QdT cellsF;rw[Qpt,List.map_flatMap]
   congr 1
   funext r
   show(QbC (0+(r:Int)).toNat w (Qdq f)).map pairD=_;rw[show(0+(r:Int)).toNat=r by omega]
  refine⟨rfl,⟨by omega,by omega⟩,Qhv (λd=>match d with | .int r=>(QbC r.toNat w (Qdq f)).map pairD | _=>[]) 36 ?_ (λd hd acc N hb hN=>?_) ?_⟩
  ·rw[QD,e0,Qe];exact QJ (fl h) (Yl h6 w6)
  ·obtain⟨i,hi⟩:=Jt.mp hd;obtain⟨hi2,rfl⟩:=QbM hi;rw[QD] at hi2;have hN:N (acc++(QbC (0+(i:Int)).toNat w (Qdq f)).map pairD):=hN;have hb:acc.length+((QbC (0+(i:Int)).toNat w (Qdq f)).map pairD).length<=36:=hb;rw[show(0+(i:Int)).toNat=i by omega] at hN hb;refine⟨⟨by omega,by omega⟩,Qsf (λd=>match d with | .int c=>if(!f i c.toNat)=true then some (pairD ((i:Int),c)) else none | _=>none) ?_ (λd hd k1 k2 h1 h2=>?_) ?_⟩
   ·rw[Qdj];exact Yy (show acc.length+((w:Nat):Int).toNat<=42 by omega) (by decide)
   ·obtain⟨c,hc⟩:=Jt.mp hd;obtain⟨hc2,rfl⟩:=QbM hc;rw[QD] at hc2;have h1:(if(!f i (0+(c:Int)).toNat)=true then some (pairD ((i:Int),0+(c:Int))) else none)=none->k1:=h1;have h2:∀e,(if(!f i (0+(c:Int)).toNat)=true then some (pairD ((i:Int),0+(c:Int))) else none)=some e->k2 e:=h2
    rw[show(0+(c:Int)).toNat=c by omega] at h1 h2;refine⟨⟨QaB _,rfl,by have:=Qew ((0+(i:Int)),(0+(c:Int)));exact QJ (Nat.le_of_eq this) (by decide)⟩,?_⟩;show if(!((cellsF h w f).map pairD).any λe=>QL e (pairD (0+(i:Int),0+(c:Int))))=true then k2 (pairD (0+(i:Int),0+(c:Int))) else k1
    rw[QdJ];have em:decide ((0+(i:Int),0+(c:Int))∈cellsF h w f)=f i c:=by
     rw[show(0:Int)+(i:Int)=(i:Int) by omega,show(0:Int)+(c:Int)=(c:Int) by omega,J7,decide_eq_true_eq,Yp];constructor
     ·rintro⟨r,d,_,_,hf,e⟩;have e1:(i:Int)=r:=(Y9 e).1;have e2:(c:Int)=d:=(Y9 e).2;rw[show i=r by omega,show c=d by omega];exact hf
     ·intro hf;exact⟨i,c,hi2,hc2,hf,rfl⟩
    rw[em,show(0:Int)+(i:Int)=(i:Int) by omega];by_cases z:(!f i c)=true
    ·rw[if_pos z];exact h2 _ (if_pos z)
    ·rw[if_neg z];exact h1 (if_neg z)
   ·have er:(QdT 0 ((w:Nat):Int).toNat).filterMap (λd=>match d with | .int c=>if(!f i c.toNat)=true then some (pairD ((i:Int),c)) else none | _=>none)=(QbC i w (Qdq f)).map pairD:=by
     unfold QdT QbC;rw[QD,Yu,Jo];refine QnQ (p:=Qdq f i) λc _=>?_
     show(if(!f i (0+(c:Int)).toNat)=true then some (pairD ((i:Int),0+(c:Int))) else none)=if(!f i c)=true then some (pairD ((i:Int),(c:Int))) else none
     rw[show(0+(c:Int)).toNat=c by omega,show(0:Int)+(c:Int)=(c:Int) by omega]
    rw[er];exact hN
  ·rw[QD,e0];exact hR
theorem Qr0:(["part", "many"]:List Str).Nodup:=by decide +kernel
theorem Qtw:Jq ["many", "thing"] ["many", "thing"] (Qt sIsO):=⟨rfl,rfl,rfl,by decide +kernel,rfl,by decide +kernel,by decide +kernel⟩
theorem Qur{f f1  : Addr}{fd fd1:QN}(F:Fun K "is_order" "is_order" sIsO f fd)(T:GlbA mg)
  (m1:mg "is_whole_within" = some (.ref f1))(G1:FnOk P w K mg base CX0 2 f1 fd1 ["thing", "least", "most"] (Zb false Qcw))(b1:Binds K fd1 ["thing", "least", "most"] [])(k1:PySem.W.keepIn K (.ref f1)=true) :
  FnOk P w K mg base CX0 3 f fd ["many", "thing"] (Zb false Qxd):=by
 refine okQ false F Qtw (λargs R EX h=>?_) (λcdv A outer s H E hr=>?_)
 ·obtain⟨n,o,rfl,_⟩:=h;rfl
 ·have hU:=Room.u60 hr;have hI:=Room.i60 hr;refine⟨_,QX (Qas (Qjw (QbN (Ya (YB (Q7 (QcV .tuple (by rfl) T.isinstance (qp 1) (by rfl) T.tuple Zv)))) (QaX (ZR YO (QbD hU) (Q7 (Zr ZZ QbJ (by rfl) T.len YF (QbO (qp 1) Jw))) (qp 0) (J3 _))))) (Jc (Zp QfB)) Zj)
   (QX (Qas (Ya (YB (Q7 (Zr Qbz (Qiq rfl) (by rfl) T.all Qey (QbO (Q7 (QaZ ["part", "many"] [none,some 0] (Qf3 (qp 1)) (λcl ex s3 H3 C=>⟨(ZT 0 Qr0 rfl (Q1 rfl) (QY rfl)),Qar,(Jp G1 (hr.mono (by decide)) (by rfl) m1 k1 b1 JG (JW (qv 0) (JW JO (JW (Zn (Qad Qgb Qeo (qp 1) (Jn JO))) Q6))))⟩))) Jw))))) (Jc (Zp QfB)) Zj)
   (Jc (Y2 (Qf5 Qdp (Qhb hU) (Q7 (Zr Qjg Qsx (by rfl) T.sorted Qgx (QbO (qp 1) Jw))) (Q7 (Qh4 (by rfl) T.list (by rfl) T.range (qp 0))) (J3 _))))),λargs R EX h=>?_⟩
  obtain⟨n,o,rfl,n6,ho,hR⟩:=h;have lo:=Z5 ho;have li:(YQ o).length=o.length:=by unfold YQ;exact Qe _
  refine ifF (by show(!decide ((((YQ o).length:Nat):Int)=(n:Int)))=false;rw[li,lo,decide_eq_true rfl];rfl) ?_
  refine Qci (λ_=>.bool true) (λd hd k2 hk=>?_) (QdL (g:=λ_=>true) (items:=YQ o) rfl ?_)
  ·unfold YQ at hd;obtain⟨x,hx,rfl⟩:=QF.mp hd;have:=QcJ ho x hx;refine⟨_,_,_,rfl,?_⟩;rw[show inW (.int (x:Int)) 0 ((n:Int) - 1)=true from Qi7 (by omega) (by omega)];exact hk
  ·rw[JL.mpr λ_ _=>rfl];refine((QpN (Qn6 o) (by unfold iN;rw[Qe];omega) λms pm pw=>?_).2);refine⟨⟨by omega,by omega⟩,?_⟩;have er:(Qg n).map (λ(i:Nat)=>Qs (i:Int))=(iN (Qg n)).map Qs:=by unfold iN;rw[Jo];rfl
   rw[QuJ ho pm pw,QD,er];refine⟨⟨Qcf _,Qcf _,.inl (Qi9 _)⟩,?_⟩;rw[QnT];exact hR
theorem Qia:(["row", "column"]:List Str).Nodup:=by decide +kernel
theorem QeT:Jq ["board", "high", "wide", "cells"] ["board"] (Qt QiM):=⟨rfl,rfl,rfl,by decide +kernel,rfl,by decide +kernel,by decide +kernel⟩
theorem QrQ{f   : Addr}{fd  : QN}(F:Fun K "turned" "turned" QiM f fd)(T:GlbA mg) :
  FnOk P w K mg base CX0 2 f fd ["board"] (Zb false QpE):=by
 refine okQ false F QeT (λargs R EX h=>?_) (λcdv A outer s H E hr=>?_)
 ·obtain⟨h,w,f,rfl,_⟩:=h;rfl
 ·have hU:=Room.u60 hr;have hI:=Room.i60 hr;refine⟨_,QX (Qf2 (qv 0) (Qbj rfl (JV 1 (JV 2 (JV 3 Qbk QeT.nd rfl (by first | exact Q1 rfl | exact QY rfl)) QeT.nd rfl (by first | exact Q1 rfl | exact QY rfl)) QeT.nd rfl (by first | exact Q1 rfl | exact QY rfl))))
   (Jc (Y2 (QcE (Qak (qv 2) (Qak (qv 1) (Qak (Zn (YS Za Qan (by rfl) T.tuple Zv (QbO (Q7 (Zr Qje cd_sortP (by rfl) T.sorted Qgx (QbO (Q7 (QaZ ["row", "column"] [none,none] (Qf3 (qp 3)) (λcl ex s3 H3 C=>⟨(Qbj rfl (JV 0 (JV 1 Qbk Qia rfl (Q1 rfl) (QY rfl)) Qia rfl (Q1 rfl) (QY rfl))),Qar,(Zn (QcE (Qak (qv 1) (Qak (qv 0) Jw))))⟩))) Jw))) Jw))) Jw)))))),λargs R EX h=>?_⟩
  obtain⟨h,w,f,rfl,h6,w6,hR⟩:=h;have hb:∀p∈cellsF h w f,0<=p.1/\p.1<h/\0<=p.2/\p.2<w:=λp hp=>YD hp
  have nd1:(cellsF h w f).Nodup:=(pw_cellsF w f h).imp QoI;have nd2:(cellsF w h (tF f)).Nodup:=(pw_cellsF h (tF f) w).imp QoI;have ln:(cellsF h w f).length<=36:=QJ (QaC w f h) (Yl h6 w6);have es:((cellsF h w f).map pairD).map (λd=>pairD ((toP d).2,(toP d).1))=((cellsF h w f).map λp=>(p.2,p.1)).map pairD:=by rw[Jo,Jo];rfl
  have nd3:((cellsF h w f).map λp=>(p.2,p.1)).Nodup:=Zw.mpr (nd1.imp λ{a b} hne e=>hne (QeC (Y9 e).2 (Y9 e).1));refine⟨rfl,Qci (λd=>pairD ((toP d).2,(toP d).1)) (λd hd k2 hk=>?_) ?_⟩
  ·obtain⟨p,_,rfl⟩:=QF.mp hd;exact⟨rfl,hk⟩
  ·rw[es];refine sortP_of nd3 (by rw[Qe];omega) (λp hp=>?_) λM pM pw=>?_
   ·obtain⟨q,hq,rfl⟩:=QF.mp hp;have:=hb q hq;show 0<=q.1/\q.1<64;omega
   ·have pc:M.Perm (cellsF w h (tF f)):=pM.trans ((QaD nd3 nd2).mpr λp=>by
     rw[QF,Yp];constructor
     ·rintro⟨q,hq,rfl⟩;obtain⟨r,c,hr,hc,hf,rfl⟩:=Yp.mp hq;exact⟨c,r,hc,hr,hf,rfl⟩
     ·rintro⟨r,c,hr,hc,hf,rfl⟩;exact⟨((c:Int),(r:Int)),Yp.mpr ⟨c,r,hc,hr,hf,rfl⟩,rfl⟩)
    have eM:M=cellsF w h (tF f):=Qd8 (le:=plt) (λa b _ _ h1 h2=>by rcases h1 with x | x<;>rcases h2 with y | y<;>omega) pw (pw_cellsF h (tF f) w) pc;rw[eM];exact hR
end
def Qk5:DF:=λargs R _=>∃n:Nat,args=[.pot,.v (.int n)]/\n<=6/\∀o,o∈YH n n->R (tNn o)
def QbF(o:List Nat):List Nat:=(Qg o.length).map λx=>o.idxOf x
def Qhh:DF:=λargs R _=>∃(n:Nat)(o:List Nat),args=[.v (tNn o)]/\n<=6/\o∈YH n n/\R (tNn (QbF o))
def Qfa:DF:=λargs R _=>∃(h w:Nat)(f:Nat->Nat->Bool),args=[.pot,.v (bdD h w (cellsF h w f))]/\1<=h/\h<=6/\1<=w/\w<=6/\R (.bool true)
theorem QnK{o:List Nat}{r:Nat}(h:r∈o):(o.map λ(x:Nat)=>(x:Int))[o.idxOf r]? = some (r:Int)/\∀m,m<o.idxOf r->(o.map λ(x:Nat)=>(x:Int))[m]? ≠ some (r:Int):=by
 have hl:=Qav h;refine⟨?_,λm hm e=>?_⟩
 ·rw[Qr,Qf hl,Qmh hl];rfl
 ·rw[Qr,Qf (by omega)] at e;have e:=Qy e;have e:o[m]=r:=by have:((o[m]:Nat):Int)=(r:Int):=e;omega
  have:=List.not_of_lt_findIdx hm;rw[e] at this;simp at this
theorem Qw0(t:List Nat):nds (YQ t)=true:=by rw[QnL];exact Qcf _
theorem Qvq(t:List Nat)(c:Nat):YQ (t++[c])=YQ t++[.int (c:Int)]:=by unfold YQ;rw[Zg];rfl
theorem Qlr:(Zz []).depth<=50:=by show 0+1<=50;decide
theorem QwI{n k:Nat}{t:List Nat}{x:Nat}(h:(oth n t)[k]? = some x):(YQ (oth n t)).eraseIdx k=YQ (oth n (t++[x])):=by
 have nd:(oth n t).Nodup:=JK.filter _;unfold YQ;have e1:∀(l:List Nat)(i:Nat),(l.map λ(x:Nat)=>Qs (x:Int)).eraseIdx i=(l.eraseIdx i).map λ(x:Nat)=>Qs (x:Int):=λl i=>by
  rw[QdP,QdP,Zg,QhI,List.map_drop]
 rw[e1,Qgn nd h,QrF]
theorem QkI{n:Nat}{t:List Nat}{x i:Nat}(ht:t∈YH n i)(hx:x∈oth n t):t++[x]∈YH n (i+1):=J8.mpr ⟨t,ht,QF.mpr ⟨x,hx,rfl⟩⟩
theorem Qni{n i:Nat}{t:List Nat}(ht:t∈YH n i):t.Nodup:=by
 induction i generalizing t with
 |zero=>rw[JS.mp ht];exact List.nodup_nil
 |succ i ih=>
  obtain⟨p,hp,ho⟩:=J8.mp ht;obtain⟨x,hx,rfl⟩:=QF.mp ho;refine Qba.mpr ⟨ih hp,by simp,λa ha b hb e=>?_⟩;rw[JS.mp hb] at e;have:=(QP.mp hx).2;simp at this;exact this (by rw[<- e];exact ha)
section
variable{P:Qz}{w:Jf}{K:PySem.W.Frag}{mg:Str->Option Value}{base:JR}
theorem QgY:Jq ["_law_pot_here", "_law_many", "_law_left", "_law_found"] ["_law_pot_here", "_law_many"] (Qt Qes):=⟨rfl,rfl,rfl,by decide +kernel,rfl,by decide +kernel,by decide +kernel⟩
theorem QrV{f f1  : Addr}{fd fd1:QN}(F:Fun K "_law_order" "_law_order" Qes f fd)(T:GlbA mg)
  (m1:mg "_law_take" = some (.ref f1))(G1:FnOk P w K mg base CX0 1 f1 fd1 ["_law_pot_here", "_law_far"] (Zb true QjS))(b1:Binds K fd1 ["_law_pot_here", "_law_far"] [])(k1:PySem.W.keepIn K (.ref f1)=true) :
  FnOk P w K mg base CX0 2 f fd ["_law_pot_here", "_law_many"] (Zb false Qk5):=by
 refine okQ false F QgY (λargs R EX h=>?_) (λcdv A outer s H E hr=>?_)
 ·obtain⟨n,rfl,_⟩:=h;rfl
 ·have hU:=Room.u60 hr;have hI:=Room.i60 hr;refine⟨_,QX (Qdk 2 (Qh4 (by rfl) T.list (by rfl) T.range (qp 1)) QgY.nd)
   (QX (Qdk 3 (Qf4 Jw) QgY.nd)
   (QX (QmK Zl (ZR YO (QbD hU) (qp 2) (Q7 (Qf4 Jw)) (J3 _))
    (Jc (QmL 3 2 (Q7 (Z7 G1 (hr.mono (by decide)) (by rfl) m1 k1 b1 JG (QaY 0 (JW (Zn (Zr ZZ QbJ (by rfl) T.len YF (QbO (qp 2) Jw))) Q6)))))))
   (Jc (Y2 (YS Za Qan (by rfl) T.tuple Zv (QbO (qp 3) Jw)))))),λargs R EX h=>?_⟩
  obtain⟨n,rfl,n6,hR⟩:=h;refine⟨⟨by omega,by omega⟩,?_⟩;rw[QD];refine Qtc (λm δ=>∃t i,t∈YH n i/\i+m=n/\δ=[.pot,.v (.int n),.own (YQ (oth n t)),.own (YQ t)]) n ⟨[],0,.head _,Nat.zero_add _,by rw[QrG];rfl⟩ ?_
  rintro m δ ⟨t,i,ht,hm,rfl⟩;have lt:=Z5 ht;have oc:=QrH (Qni ht) (QcJ ht);refine⟨⟨Qw0 _,rfl,.inr Qlr⟩,?_⟩;have li:∀o:List Nat,(YQ o).length=o.length:=λo=>by unfold YQ;exact Qe _
  cases e:oth n t with
  |nil=>
   rw[e] at oc;have oc:0+t.length=n:=oc;have:i=n:=by omega
   subst this;exact hR t ht
  |cons y q=>
   have ll:(y::q).length+t.length=n:=by rw[<- e];exact oc
   refine⟨_,rfl,by rw[li];show(1:Int)<=((q.length+1:Nat):Int);omega,by rw[li];omega,λr r0 r1=>?_⟩;rw[li] at r1;obtain⟨k,rfl⟩:∃k:Nat,r=k:=⟨r.toNat,by omega⟩
   have hk:k<(y::q).length:=by omega
   obtain⟨x,hx⟩:∃x,(y::q)[k]? = some x:=⟨_,Qf hk⟩
   refine⟨k,.int x,rfl,by omega,by unfold YQ;rw[Qr,hx];rfl,by rw[li];omega,?_⟩;rw[<- e] at hx ⊢;refine⟨m - 1,by omega,t++[x],i+1,QkI ht (Ji hx),by omega,?_⟩;rw[<- QwI hx,Qvq];rfl
theorem Qk1:(["_law_number", "_law_order_here"]:List Str).Nodup:=by decide +kernel
theorem QmB:Jq ["_law_order_here"] ["_law_order_here"] (Qt Qi3):=⟨rfl,rfl,rfl,by decide +kernel,rfl,by decide +kernel,by decide +kernel⟩
theorem Qnr{f   : Addr}{fd  : QN}(F:Fun K "_law_back" "_law_back" Qi3 f fd)(T:GlbA mg) :
  FnOk P w K mg base CX0 1 f fd ["_law_order_here"] (Zb false Qhh):=by
 refine okQ false F QmB (λargs R EX h=>?_) (λcdv A outer s H E hr=>?_)
 ·obtain⟨n,o,rfl,_⟩:=h;rfl
 ·have hU:=Room.u60 hr;have hI:=Room.i60 hr;refine⟨_,Jc (Y2 (YS Za Qan (by rfl) T.tuple Zv (QbO (Q7 (QaZ ["_law_number", "_law_order_here"] [none,some 0] (QaK (by rfl) T.range (Q7 (Zr ZZ QbJ (by rfl) T.len YF (QbO (qp 0) Jw)))) (λcl ex s3 H3 C=>⟨(ZT 0 Qk1 rfl (Q1 rfl) (QY rfl)),Qar,(Zn (QtO (qp 1) (qp 0)))⟩))) Jw))),λargs R EX h=>?_⟩;obtain⟨n,o,rfl,n6,ho,hR⟩:=h;have lo:=Z5 ho;have li:(YQ o).length=o.length:=by unfold YQ;exact Qe _
  refine⟨⟨by rw[li];omega,by rw[li];omega⟩,Qci (λd=>match d with | .int x=>.int ((o.idxOf x.toNat:Nat):Int) | _=>.none) (λd hd k2 hk=>?_) ?_⟩
  ·obtain⟨x,hx⟩:=Jt.mp hd;obtain⟨hx,rfl⟩:=QbM hx;rw[li] at hx;have hk:k2 (.int ((o.idxOf (0+(x:Int)).toNat:Nat):Int)):=hk;rw[show(0+(x:Int)).toNat=x by omega] at hk;have mo:x∈o:=(QaA ho).mem_iff.mpr (Qw.mpr (by omega));obtain⟨i1,i2⟩:=QnK mo;exact⟨_,_,_,QnL o,by rw[QaV],i1,i2,hk⟩
  ·have e:(QdT 0 (((YQ o).length:Nat):Int).toNat).map (λd=>match d with | .int x=>Qs ((o.idxOf x.toNat:Nat):Int) | _=>.none)=YQ (QbF o):=by
    unfold QdT QbF YQ;rw[Jo,Jo,Qe,QD];refine JY λx _=>?_
    show Qs ((o.idxOf (0+(x:Int)).toNat:Nat):Int)=.int ((o.idxOf x:Nat):Int);rw[show(0+(x:Int)).toNat=x by omega]
   rw[e];exact hR
end
end Rk
namespace Rk
open L2 _root_.Rd
structure Glb4 (mg:Str->Option Value):Prop where
 isinstance:mg "isinstance" = none
 int:mg "int" = none
 bool:mg "bool" = none
 str:mg "str" = none
 tuple:mg "tuple" = none
 list:mg "list" = none
 all:mg "all" = none
 len:mg "len" = none
 zip:mg "zip" = none
 enumerate:mg "enumerate" = none
 range:mg "range" = none
 max:mg "max" = none
 min:mg "min" = none
 lines:∃t,mg "MOST_LINES" = some (.int 6 t)
 cell:∃t,mg "CELL" = some (.str csH t)
 other:∃t,mg "OTHER" = some (.str csO t)
 between:∃t,mg "BETWEEN" = some (.str csB t)
def QpL:Sp:=λvs H Q _=>∃s,vs=[.str s]/\s.length<=900/\∀H',Same H H'->Q (.bl (QaN s)) H'
def QpM:Sp:=λvs H Q _=>∃l rows,vs=[.ref l]/\H l=some (.lst ((rows:List Str).map V.str))/\rows≠[]/\(∀r∈rows,r.length<=30000)/\∀H',Same H H'->Q (.bl (YC rows)) H'
theorem Qw2:(["sign"]:List Str).Nodup:=by decide +kernel
theorem Qw1:(["signs", "wide"]:List Str).Nodup:=by decide +kernel
theorem QnJ(c:Nat):inV (.str ⟨#[c]⟩) [.str csH,.str csO]=(decide (c=35)||decide (c=46)):=by
 have e:∀d:Nat,eqV (.str ⟨#[d]⟩) (.str ⟨#[c]⟩)=decide (c=d):=λd=>by
  have h:eqV (.str ⟨#[d]⟩) (.str ⟨#[c]⟩)=decide ((⟨#[d]⟩:Str)=⟨#[c]⟩):=by
   unfold eqV
   first | rfl | simp[Bool.beq_eq_decide_eq]
  rw[h];by_cases q:c=d
  ·subst q;simp
  ·rw[decide_eq_false q];exact decide_eq_false λz=>q ((QoQ d c).mp z).symm
 unfold inV;rw[Yv,Yv,List.any_nil,Bool.or_false,e,e]
section
variable{P:Qz}{w:Jf}{K:PySem.W.Frag}{mg:Str->Option Value}{base:JR}
theorem Qwu:Jq ["signs"] ["signs"] (Qt sHas):=⟨rfl,rfl,rfl,by decide +kernel,rfl,by decide +kernel,by decide +kernel⟩
theorem Qut{f:Addr}{fd:QN}(F:Fun K "has_board_signs" "has_board_signs" sHas f fd)(T:Glb4 mg):FnOk P w K mg base CX0 1 f fd ["signs"] QpL:=by
 obtain⟨tc,hcell⟩:=T.cell;obtain⟨to',hother⟩:=T.other;refine F.ok Qwu (λvs H Q E h=>?_) (λcdv A outer s H vs Q E hr h=>?_)
 ·obtain⟨s,rfl,_⟩:=h;rfl
 ·obtain⟨z,rfl,hz,k⟩:=h;refine⟨_,Z8 (Qal (Z4 Qbz (by rfl) T.all Qey (JD (Qcb (M:=["sign"]) (cap:=[none]) (g:=QbE 0) (tc:=Qbg) (te:=tOp (rIn K false) (Qde 0) (Qms (Qa5 (tC (.str csH)) (Qa5 (tC (.str csO)) QjU)))) rfl (by rfl)
   (QtU (pv 0)) (λcl ex s3 H3 C=>⟨Y3 (i:=0) Qw2 rfl (Q1 rfl) (QY rfl),QcF,Qg7 QkM (pv 0) (Qdn (JD (Qat (v:=.str csH) (by rfl) hcell ⟨tc,rfl⟩) (JD (Qat (v:=.str csO) (by rfl) hother ⟨to',rfl⟩) JA))) (by rfl)⟩)) JA))),?_⟩
  refine⟨_,rfl,z,rfl,λpl hpl=>?_⟩;refine Qex z.cps.size (Z9 (show z.length<=1000 by omega)) (λi=>decide (codeAt z i=35)||decide (codeAt z i=46)) hpl (λi H2 hi s2=>?_) (λH2 s2=>rfl) λH2 s2 e2=>?_
  ·refine⟨hi,λv H3 ⟨eH,c,hc,ev⟩ kk hk=>?_⟩;subst eH ev;rw[QdF hc] at hk;refine⟨trivial,_,rfl,by show 2<=1000;decide,λt H4 s4 n4 e4=>?_⟩;refine⟨t,_,rfl,.inr (SqT.of e4),rfl,rfl,?_⟩;show kk (.bl (inV (.str ⟨#[c]⟩) [.str csH,.str csO])) _;rw[QnJ];exact hk H4 s4
  ·refine⟨pl,_,rfl,SqL.of e2,rfl,?_⟩;have e3:((Qg z.cps.size).map λi=>decide (codeAt z i=35)||decide (codeAt z i=46)).all id=QaN z:=by unfold QaN;rw[QdY];rfl
   rw[e3];exact k H2 s2
theorem Qtz:Jq ["rows", "wide"] ["rows"] (Qt sAre):=⟨rfl,rfl,rfl,by decide +kernel,rfl,by decide +kernel,by decide +kernel⟩
theorem Quv{f f1:Addr}{fd fd1:QN}(F:Fun K "are_rows" "are_rows" sAre f fd)(T:Glb4 mg)(m1:mg "has_board_signs" = some (.ref f1))(G1:FnOk P w K mg base CX0 1 f1 fd1 ["signs"] QpL)(b1:Binds K fd1 ["signs"] [])(k1:PySem.W.keepIn K (.ref f1)=true) :
  FnOk P w K mg base CX0 2 f fd ["rows"] QpM:=by
 obtain⟨tk,hml⟩:=T.lines;refine F.ok Qtz (λvs H Q E h=>?_) (λcdv A outer s H vs Q E hr h=>?_)
 ·obtain⟨l,rows,rfl,_⟩:=h;rfl
 ·obtain⟨l,rows,rfl,hl,hne,hlen,k⟩:=h;obtain⟨r0,rs,rfl⟩:∃r0 rs,rows=r0::rs:=by
   cases rows with
   |nil=>exact absurd rfl hne
   |cons a b=>exact⟨a,b,rfl⟩
  have hw0:YM (r0::rs)=r0.length:=rfl;have h0:=hlen r0 QV;refine⟨_,Zs (QbH (i:=1) Qtz.nd rfl (QY rfl) (Z4 Qbo (by rfl) T.len YF (JD (Qe5 QcM (pv 0) Zq (λ_ _=>rfl)) JA)))
   (Zs (QiS (PW.pt (Qp8 (Qbl Qui (Z4 YE (by rfl) T.len YF (JD (pv 0) JA)) (Qat (v:=.int 6) (by rfl) hml ⟨tk,rfl⟩) (J3 _)) (Qp8 (Qbl Qnk (pv 1) Zq (J3 _)) (QoE (Qbl Qui (pv 1) (Qat (v:=.int 6) (by rfl) hml ⟨tk,rfl⟩) (J3 _)))))) (Z8 (Qal QtY)) QcG)
   (Z8 (Qal (Z4 Qbz (by rfl) T.all Qey (JD (Qcb (M:=["signs", "wide"]) (cap:=[none,some 1]) (g:=QbE 0) (tc:=Qbg) rfl (by rfl)
    (Qks (pv 0)) (λcl ex s3 H3 C=>⟨Y3 (i:=0) Qw1 rfl (Q1 rfl) (QY rfl),QcF,QoL (Qg7 QrL (Z4 Qbo (by rfl) T.len YF (JD (pv 0) JA)) (pv 1) (J3 _)) (QoJ (QcH G1 (hr.mono (by decide)) (by rfl) m1 k1 b1 .nil QrD (JD (pv 0) JA)))⟩)) JA))))),?_⟩
  refine⟨_,rfl,l,_,0,.str r0,rfl,rfl,SqL.of hl,Zd (j:=0) rfl,r0,rfl,Ju (Qcl (by omega)),?_⟩;refine⟨_,rfl,l,_,rfl,.inl (SqL.of hl),_,_,rfl,rfl,_,rfl,?_⟩;have hll:((r0::rs).map V.str).length=(r0::rs).length:=Qe _;by_cases hc:(r0::rs).length<=6
  rotate_left
  ·have e:YC (r0::rs)=false:=by unfold YC;rw[decide_eq_false hc];rfl
   rw[e] at k;rw[decide_eq_true (show(6:Int)<(((r0::rs).map V.str).length:Nat) by rw[hll];omega)];exact Qgk (Qgk (k H (Same.refl H)))
  rw[decide_eq_false (show ¬(6:Int)<(((r0::rs).map V.str).length:Nat) by rw[hll];omega)];refine Ql6 ⟨_,rfl,_,_,rfl,rfl,_,rfl,?_⟩;by_cases h1:1<=r0.length
  rotate_left
  ·have e:YC (r0::rs)=false:=by unfold YC;rw[hw0,decide_eq_true hc,decide_eq_false h1];rfl
   rw[e] at k;rw[decide_eq_true (show(r0.length:Int)<1 by omega)];exact Qgk (Qgk (k H (Same.refl H)))
  rw[decide_eq_false (show ¬(r0.length:Int)<1 by omega)];refine Ql6 ⟨_,rfl,_,_,rfl,rfl,_,rfl,?_⟩;by_cases h6:r0.length<=6
  rotate_left
  ·have e:YC (r0::rs)=false:=by unfold YC;rw[hw0,decide_eq_true hc,decide_eq_true h1,decide_eq_false h6];rfl
   rw[e] at k;rw[decide_eq_true (show(6:Int)<(r0.length:Nat) by omega)];exact Qgk (k H (Same.refl H))
  rw[decide_eq_false (show ¬(6:Int)<(r0.length:Nat) by omega)];refine Ql6 ?_
  refine⟨_,rfl,l,rfl,⟨_,SqL.of hl⟩,λpl hpl=>?_⟩;refine Qex (r0::rs).length (Z9 (by omega)) (λi=>decide (((r0::rs).getD i csE).length=r0.length)&&QaN ((r0::rs).getD i csE)) hpl (λi H2 hi s2=>?_) (λH2 s2=>⟨_,SqL.of (s2 _ _ hl),by rw[hll];exact Qh _⟩) λH2 s2 e2=>?_
  ·have hi':((r0::rs).map V.str)[i]? = some (.str (r0::rs)[i]):=by rw[Qr,Qf hi];rfl
   refine⟨⟨_,_,SqL.of (s2 _ _ hl),hi'⟩,λv H3 ⟨eH,ev⟩ kk hk=>?_⟩;subst eH;have ev':=ev _ (SqL.of (s2 _ _ hl));rw[hi'] at ev';cases ev';have eg:(r0::rs).getD i csE=(r0::rs)[i]:=by rw[Qi,Qf hi];rfl
   rw[eg] at hk;have hri:=hlen _ (ZJ hi);refine⟨⟨rfl,trivial⟩,_,rfl,_,rfl,Ju (Qcl (by omega)),_,rfl,rfl,_,rfl,?_⟩;by_cases hq:(r0::rs)[i].length=r0.length
   ·rw[decide_eq_true hq,Qbt] at hk;rw[decide_eq_true (by rw[hq])];exact Qgk ⟨_,rfl,_,rfl,by omega,λH4 s4=>hk H4 s4⟩
   ·rw[decide_eq_false hq,Qs9] at hk;rw[decide_eq_false (λz=>hq (by injection z with z;omega))];exact Ql6 (hk _ (Same.refl _))
  ·refine⟨pl,_,rfl,SqL.of e2,rfl,?_⟩;have e3:((Qg (r0::rs).length).map λi=>decide (((r0::rs).getD i csE).length=r0.length)&&QaN ((r0::rs).getD i csE)).all id=YC (r0::rs):=by
    unfold YC;rw[hw0,decide_eq_true hc,decide_eq_true h1,decide_eq_true h6,Qbt,Qbt,Qbt,QdY]
    conv=>rhs;rw[<- range_getD (r0::rs) csE]
    rw[QdY];rfl
   rw[e3];exact k H2 s2
end
def QyM(x:V):Prop:=∀t,x=.str t->t.length<=20000
def Qlh:V->Bool
 |.str t=>YC (JB t csB)
 |_=>false
def QlR:V->Qb
 |.str t=>Qis (JB t csB).length (YM (JB t csB)) (QdG (JB t csB))
 |_=>.none
theorem QpW(x:V):QtD x=if Qlh x=true then QlR x else .str "text" := by
 cases x<;>rfl
def Qow(CT:Addr):Sp:=λvs H Q E=>∃p x,vs=[x]/\Kn p H x/\QyM x/\(Qlh x=false->∀H',Same H H'->E (.ref CT) none H')/\(Qlh x=true->∀v H',Same H H'->Dat H' v (QlR x)->Q v H')
theorem Qe8:(["row", "signs", "column", "sign"]:List Str).Nodup:=by decide +kernel
theorem Qw6:(csB.length == 0)=false:=rfl
theorem QiQ{rows:List Str}(h:YC rows=true):rows.length<=6/\1<=YM rows/\YM rows<=6/\∀r∈rows,r.length=YM rows/\QaN r=true:=by
 unfold YC at h;obtain⟨h1,h⟩:=QU.mp h;obtain⟨h2,h⟩:=QU.mp h;obtain⟨h3,h4⟩:=QU.mp h;refine⟨of_decide_eq_true h1,of_decide_eq_true h2,of_decide_eq_true h3,λr hr=>?_⟩;obtain⟨a,b⟩:=QU.mp (JL.mp h4 r hr);exact⟨of_decide_eq_true a,b⟩
theorem Qlj{rs:List Str}{i:Nat}{x:V}(h:(rs.map V.str)[i]? = some x):x=.str (rs.getD i csE):=by
 rw[Qr] at h;rw[Qi];cases e:rs[i]? with
 |none=>rw[e] at h;cases h
 |some a=>rw[e] at h;cases h;rfl
theorem getD_memS{rs:List Str}{i:Nat}(h:i<rs.length):rs.getD i csE∈rs:=by
 rw[Qi,Qf h];exact ZJ h
section
variable{P:Qz}{w:Jf}{K:PySem.W.Frag}{mg:Str->Option Value}{base:JR}
theorem Qj8:Jq ["text", "rows", "cells"] ["text"] (Qt QiN):=⟨rfl,rfl,rfl,by decide +kernel,rfl,by decide +kernel,by decide +kernel⟩
theorem QrS{f f1 CT:Addr}{fd fd1:QN}(F:Fun K "read" "read" QiN f fd)(T:Glb4 mg)(m1:mg "are_rows" = some (.ref f1))(G1:FnOk P w K mg base CX0 2 f1 fd1 ["rows"] QpM)(b1:Binds K fd1 ["rows"] [])(k1:PySem.W.keepIn K (.ref f1)=true)
  (mT:mg "NoText" = some (.ref CT))(qT:PySem.W.excIn K CT Rx.mroV "ValueError.__new__" = true) :
  FnOk P w K mg base (Rx.CXE P w) 3 f fd ["text"] (Qow CT):=by
 obtain⟨tb,hbet⟩:=T.between;obtain⟨tc,hcell⟩:=T.cell;refine Rx.okE F Qj8 (λvs H Q E h=>?_) (λcdv A outer s H vs Q E hr h=>?_)
 ·obtain⟨p,x,rfl,_⟩:=h;rfl
 ·obtain⟨p,x,rfl,kn,hb,x1,x2⟩:=h;refine⟨_,Zs (QiS (Qko (Qkn (Z4 QdH (by rfl) T.isinstance Qck (JD (pv 0) (JD (Qkw (v:=.ty "str") (by rfl) T.str Qvf rfl) JA))))) (Z8 (Rx.Qh5 (C:=CT) (E:=E) (λ_ _ h=>h) rfl rfl rfl rfl (by rfl) mT qT Qkv)) QcG)
   (Zs (QbH (i:=1) Qj8.nd rfl (Q1 rfl) (Qg8 PySem.F.plainAttrs_str PySem.F.slot_str_split PySem.F.type_str_split Qnz (pv 0) (JD (Qat (v:=.str csB) (by rfl) hbet ⟨tb,rfl⟩) JA)))
   (Zs (QiS (Qko (Qkn (QcH G1 hr (by rfl) m1 k1 b1 .nil QrD (JD (pv 1) JA)))) (Z8 (Rx.Qh5 (C:=CT) (E:=E) (λ_ _ h=>h) rfl rfl rfl rfl (by rfl) mT qT Qkv)) QcG)
   (Zs (Qf7 (i:=2) (M:=["row", "signs", "column", "sign"]) (cap:=[none,none,none,none])
    (g:=QvJ K 2 (Qi8 (QbE 0) (Qi8 (QbE 1) QvK))) (tc:=Qbg) (wi2:=QoW (Qa5 (Qde 1) QjU)) (g2:=QvJ K 2 (Qi8 (QbE 2) (Qi8 (QbE 3) QvK)))
    (tc2:=QpF (tOp rEq (Qde 3) (tC (.str csH)))) (te:=Qms (Qa5 (Qde 0) (Qa5 (Qde 2) QjU))) Qj8.nd rfl rfl rfl (by rfl)
    (Qkt (by rfl) T.enumerate (JD (pv 1) JA))
    (λcl ex s3 H3 C=>⟨Qku rfl (Qca (Y3 (i:=0) Qe8 rfl (Q1 rfl) (QY rfl)) (Qca (Y3 (i:=1) Qe8 rfl (Q1 rfl) (QY rfl)) Qg6)),QcF,
     QmS (by rfl) T.enumerate (JD (pv 1) JA),Qku rfl (Qca (Y3 (i:=2) Qe8 rfl (Q1 rfl) (QY rfl)) (Qca (Y3 (i:=3) Qe8 rfl (Q1 rfl) (QY rfl)) Qg6)),
     Qkm (Qbl QrL (pv 3) (Qat (v:=.str csH) (by rfl) hcell ⟨tc,rfl⟩) (J3 _)),Qdn (JD (pv 0) (JD (pv 2) JA))⟩))
   (Z8 (Qal (Qdn (JD (Z4 YE (by rfl) T.len YF (JD (pv 1) JA)) (JD (Z4 Qbo (by rfl) T.len YF (JD (Qe5 QcM (pv 1) Zq (λ_ _=>rfl)) JA)) (JD (Qdo Qcj (by rfl) T.tuple Zv (JD (pv 2) JA)) JA))))))))),?_⟩
  obtain⟨t,ty,e⟩:=QnI (K:=K) kn;refine⟨_,rfl,_,t,_,_,rfl,ty,e,_,rfl,?_⟩;by_cases hS:isS x=true
  rotate_left
  ·rw[Bool.eq_false_iff.mpr hS];have e2:Qlh x=false:=by cases x<;>first | rfl | exact absurd rfl hS
   exact Qgk (x1 e2 H (Same.refl H))
  obtain⟨z,rfl⟩:∃z,x=.str z:=by
   cases x with
   |str z=>exact⟨z,rfl⟩
   |_=>cases hS
  refine Ql6 ?_
  have hz:=hb z rfl;refine⟨_,rfl,rfl,z,csB,rfl,rfl,Qw6,by omega,λl H1 s1 n1 e1=>?_⟩;have hne:JB z csB≠[]:=by
   obtain⟨a,b,q⟩:=QhR z csB;rw[q];exact λh=>nomatch h
  have hlen:∀r∈JB z csB,r.length<=20000:=λr hr=>QJ (QiI hr) hz
  refine⟨_,rfl,l,_,rfl,e1,hne,λr hr=>QJ (hlen r hr) (by decide),λH2 s2=>⟨_,rfl,?_⟩⟩;cases hg:YC (JB z csB) with
  |false=>exact Qgk (x1 hg H2 (s1.trans s2))
  |true=>
   refine Ql6 ?_
   obtain⟨p1,p2,p3,p4⟩:=QiQ hg;have x2':=x2 hg;have ebT:QlR (.str z)=Qis (JB z csB).length (YM (JB z csB)) (QdG (JB z csB)):=rfl;rw[ebT] at x2';generalize JB z csB=rows at p1 p2 p3 p4 x2' e1 hne hlen;have e2:=s2 _ _ e1;refine⟨_,rfl,l,_,rfl,e2,λpl hpl=>?_⟩;have hll:(rows.map V.str).length=rows.length:=Qe _;refine QnW rows.length (YM rows) (QJ (Yl p1 p3) (by decide)) (by omega) (QlH rows) hpl (λi H3 hi s3 _=>?_) (λH3 s3=>⟨_,s3 _ _ e2,by rw[hll];exact Qh _⟩) λH3 ys s3 ey cy=>?_
   ·have hi':(rows.map V.str)[i]? = some (.str rows[i]):=by rw[Qr,Qf hi];rfl
    refine⟨⟨_,_,s3 _ _ e2,hi'⟩,λv H4 ⟨a,x',ha,hx,ev,eH⟩ kk2 kk hk=>?_⟩;have ex:=Qlj (hx _ (s3 _ _ e2));subst ex ev eH;obtain⟨q1,_⟩:=p4 _ (getD_memS hi);refine⟨a,[.int (i:Nat),.str (rows.getD i csE)],rfl,SqT.of Jh,rfl,.int (i:Nat),[.str (rows.getD i csE)],rfl,.str (rows.getD i csE),[],rfl,rfl,⟨trivial,Qgk ?_⟩⟩;refine⟨_,rfl,_,rfl,hk _ _ _ (Jg ha) ⟨λj H6 hj s6 ⟨zs,ez⟩=>⟨?_,λy H7 ⟨b,c,hb',hc,ev2,eH2⟩ kn' kv h1 h2=>?_⟩,λH6 s6=>?_⟩⟩
    ·show j<_;rw[show(rows.getD i csE).cps.size=YM rows from q1];exact hj
    ·subst ev2 eH2;have ec:=QdF hc;unfold QlH at h1 h2;rw[ec] at h1 h2;refine⟨b,[.int (j:Nat),.str ⟨#[c]⟩],rfl,SqT.of Jh,rfl,.int (j:Nat),[.str ⟨#[c]⟩],rfl,.str ⟨#[c]⟩,[],rfl,rfl,⟨⟨rfl,rfl,trivial⟩,?_⟩⟩;refine⟨_,rfl,rfl,_,rfl,?_⟩;rw[Qsl];by_cases hm:c=35
     ·rw[decide_eq_true hm];refine Qgk ⟨_,rfl,_,rfl,by show 2<=1000;decide,λt2 H9 s9 n9 e9=>?_⟩;exact h2 ((i:Int),(j:Int)) t2 H9 (if_pos hm) ((Jg hb').trans s9) (Qw4 (Jg hb' _ _ ez) n9) e9
     ·rw[decide_eq_false hm];exact Ql6 (h1 (if_neg hm) _ (Jg hb'))
    ·show _=_;exact(show(rows.getD i csE).cps.size=YM rows from q1).symm
   ·have hr0:(rows.map V.str)[0]? = some (.str (rows.getD 0 csE)):=by
     cases rows with
     |nil=>exact absurd rfl hne
     |cons a b=>rfl
    refine⟨_,rfl,l,_,rfl,.inl (SqL.of (s3 _ _ e2)),_,rfl,l,_,0,.str (rows.getD 0 csE),rfl,rfl,SqL.of (s3 _ _ e2),Zd (j:=0) hr0,_,rfl,?_,_,rfl,pl,ys,rfl,.inl ⟨SqL.of ey,λl2 nl2=>Qwm nl2 λH4 s4 e4=>⟨by show 3<=1000;decide,λt5 H5 s5 n5 e5=>?_⟩⟩⟩
    ·have:(rows.getD 0 csE).length<=6:=p3;exact Ju (Z9 (by omega))
    ·refine x2' (.ref t5) H5 ((((s1.trans s2).trans s3).trans s4).trans s5) ?_
     rw[hll] at e5;exact .tup e5 (.cons (.int _) (.cons (.int _) (.cons (.tup (s5 _ _ e4) (cy.dats.same (s4.trans s5))) .nil)))
end
def QhS:Sp:=λvs H Q _=>∃p q h w L r,vs=[.ref q,.int (r:Nat)]/\BoardAt p H q h w L/\∀H',Same H H'->Q (.str (Qkb L w.toNat r)) H'
def QfW:Sp:=λvs H Q _=>∃p q h w L,vs=[.ref q]/\BoardAt p H q h w L/\∀H',Same H H'->Q (.str (Qbf h.toNat w.toNat L)) H'
theorem Qux:(["column", "board", "row"]:List Str).Nodup:=by decide +kernel
theorem Qw3:(["row", "board"]:List Str).Nodup:=by decide +kernel
theorem Qln{α β:Type}(f:α->β)(l:List α):l.filterMap (λi=>some (f i))=l.map f:=by
 rw[List.filterMap_eq_map']
section
variable{P:Qz}{w:Jf}{K:PySem.W.Frag}{mg:Str->Option Value}{base:JR}
theorem Qty:Jq ["board", "row"] ["board", "row"] (Qt ZL):=⟨rfl,rfl,rfl,by decide +kernel,rfl,by decide +kernel,by decide +kernel⟩
theorem Qnm{f:Addr}{fd:QN}(F:Fun K "written_row" "written_row" ZL f fd)(T:Glb4 mg):FnOk P w K mg base CX0 1 f fd ["board", "row"] QhS:=by
 obtain⟨tc,hcell⟩:=T.cell;obtain⟨to',hother⟩:=T.other;refine F.ok Qty (λvs H Q E h=>?_) (λcdv A outer s H vs Q E hr h=>?_)
 ·obtain⟨p,q,h,w,L,r,rfl,_⟩:=h;rfl
 ·obtain⟨p,q,h,w',L,r,rfl,B,k⟩:=h;obtain⟨c,ps,nc,e1,e2,cs⟩:=B.it;have wb1:=B.w1;have wb6:=B.w6;have un:=hr.units;refine⟨_,Z8 (Qal (Qg8 PySem.F.plainAttrs_str PySem.F.slot_str_join PySem.F.type_str_join Qk4 Qkv (JD
   (Qcb (M:=["column", "board", "row"]) (cap:=[none,some 0,some 1]) (g:=QbE 0) (tc:=Qbg)
    (te:=tIf (QpF (tOp (QvF (A.deeper (envOfC "written_row" (Qt ZL) s.heap.objs.size f cdv)).in1.units false) (Qms (Qa5 (Qde 2) (Qa5 (Qde 0) QjU))) (tOp (QwB K) (Qde 1) (tC (.int 2))))) (tC (.str csH)) (tC (.str csO))) rfl (by rfl)
    (Qb9 (by rfl) T.range (JD (Qe5 Qie (pv 0) Zq (λ_ _=>rfl)) JA))
    (λcl ex s3 H3 C=>⟨Y3 (i:=0) Qux rfl (Q1 rfl) (QY rfl),QcF,QmU (Qbl QoP (Qdn (JD (pv 2) (JD (pv 0) JA))) (Qe5 Qie (pv 1) Zq (λ_ _=>rfl)) (by rfl)) (Qat (v:=.str csH) (by rfl) hcell ⟨tc,rfl⟩) (Qat (v:=.str csO) (by rfl) hother ⟨to',rfl⟩)⟩)) JA))),?_⟩
  refine⟨rfl,_,rfl,q,_,1,.int w',rfl,rfl,SqT.of e1,rfl,w',rfl,by omega,by omega,λpl hpl=>?_⟩;refine Qio w'.toNat (Z9 (by omega)) (λi=>some (.str (QeS L r i))) hpl (λi H2 hi s2=>?_) (λH2 s2=>?_) λH2 s2 e3=>?_
  ·refine⟨?_,λv H3 ⟨eH,ev⟩ kn kv h1 h2=>?_⟩
   ·show i<_;omega
   subst eH ev;refine⟨⟨rfl,rfl,trivial⟩,?_⟩;refine(Qgk (B:=kn H3) ?_:if true=true then _ else kn H3);refine⟨_,rfl,_,rfl,by show 2<=1000;decide,λt H4 s4 n4 e4=>?_⟩;have S4:=s2.trans s4;refine⟨_,rfl,q,_,2,.ref c,rfl,rfl,SqT.of (S4 _ _ e1),rfl,c,ps,L.map pairD,pairD ((r:Int),(0:Int)+(i:Int)),rfl,S4 _ _ e2,cs.dats.same S4,.tup e4 (.cons (.int _) (.cons (.int _) .nil)),by rw[Qew];show(A.deeper (envOfC "written_row" (Qt ZL) s.heap.objs.size f cdv)).units+1+1<cLine;omega,_,rfl,?_⟩;rw[Qn7,QaV];have h2':=h2 _ rfl H4 s4;unfold QeS at h2';by_cases hm:((r:Int),(i:Int))∈L
   ·rw[decide_eq_true hm];rw[if_pos hm] at h2';exact Qgk h2'
   ·rw[decide_eq_false hm];rw[if_neg hm] at h2';exact Ql6 h2'
  ·show _<=_;omega
  ·rw[Qln] at e3;have e4:H2 pl=some (.lst (((Qg w'.toNat).map (QeS L r)).map V.str)):=by rw[e3,Jo];rfl
   refine⟨_,pl,(Qg w'.toNat).map (QeS L r),rfl,rfl,SqL.of e4,?_,?_⟩
   ·rw[show(ZX "" : Str)=csE from Qtq];exact QgZ L (by omega) r
   ·have:=k H2 s2;unfold Qkb at this;rw[show(ZX "" : Str)=csE from Qtq];exact this
theorem Qj7:Jq ["board"] ["board"] (Qt Qbu):=⟨rfl,rfl,rfl,by decide +kernel,rfl,by decide +kernel,by decide +kernel⟩
theorem QiV{f f1:Addr}{fd fd1:QN}(F:Fun K "written" "written" Qbu f fd)(T:Glb4 mg)(m1:mg "written_row" = some (.ref f1))(G1:FnOk P w K mg base CX0 1 f1 fd1 ["board", "row"] QhS)(b1:Binds K fd1 ["board", "row"] [])(k1:PySem.W.keepIn K (.ref f1)=true) :
  FnOk P w K mg base CX0 2 f fd ["board"] QfW:=by
 obtain⟨tb,hbet⟩:=T.between;refine F.ok Qj7 (λvs H Q E h=>?_) (λcdv A outer s H vs Q E hr h=>?_)
 ·obtain⟨p,q,h,w,L,rfl,_⟩:=h;rfl
 ·obtain⟨p,q,h,w',L,rfl,B,k⟩:=h;obtain⟨c,ps,nc,e1,e2,cs⟩:=B.it;have hb1:=B.h1;have hb6:=B.h6;have wb1:=B.w1;have wb6:=B.w6;refine⟨_,Z8 (Qal (Qg8 PySem.F.plainAttrs_str PySem.F.slot_str_join PySem.F.type_str_join Qk4 (Qat (v:=.str csB) (by rfl) hbet ⟨tb,rfl⟩) (JD
   (Qcb (M:=["row", "board"]) (cap:=[none,some 0]) (g:=QbE 0) (tc:=Qbg) (te:=QpH QhS [] E0 (Qa5 (Qde 1) (Qa5 (Qde 0) QjU))) rfl (by rfl)
    (Qb9 (by rfl) T.range (JD (Qe5 Qie (pv 0) Zq (λ_ _=>rfl)) JA))
    (λcl ex s3 H3 C=>⟨Y3 (i:=0) Qw3 rfl (Q1 rfl) (QY rfl),QcF,QcH G1 hr (by rfl) m1 k1 b1 .nil QrD (JD (pv 1) (JD (pv 0) JA))⟩)) JA))),?_⟩
  refine⟨rfl,_,rfl,q,_,0,.int h,rfl,rfl,SqT.of e1,rfl,h,rfl,by omega,by omega,λpl hpl=>?_⟩;refine Qio h.toNat (Z9 (by omega)) (λi=>some (.str (Qkb L w'.toNat i))) hpl (λi H2 hi s2=>?_) (λH2 s2=>?_) λH2 s2 e3=>?_
  ·refine⟨?_,λv H3 ⟨eH,ev⟩ kn kv h1 h2=>?_⟩
   ·show i<_;omega
   subst eH ev;refine⟨⟨rfl,trivial⟩,?_⟩;refine(Qgk (B:=kn H3) ?_:if true=true then _ else kn H3);rw[QaV];exact⟨_,rfl,_,rfl,p,q,h,w',L,i,rfl,B.kx (KX.of s2),λH4 s4=>h2 _ rfl H4 s4⟩
  ·show _<=_;omega
  ·rw[Qln] at e3;have e4:H2 pl=some (.lst ((linesS h.toNat w'.toNat L).map V.str)):=by unfold linesS;rw[e3,Jo];rfl
   exact⟨csB,pl,linesS h.toNat w'.toNat L,rfl,rfl,SqL.of e4,Qfb L (by omega) (by omega),k H2 s2⟩
end
end Rk
namespace Rk
open L2 _root_.Rd
open Dl
open Rt
mutual
def nl:Qb->Bool
 |.list _=>false
 |.dict _=>false
 |.tuple ds=>nls ds
 |_=>true
def nls:List Qb->Bool
 |[]=>true
 |d::ds=>nl d&&nls ds
end
mutual
theorem Qpa{A:Addr->Prop}{H:Hp}(dm:∀a,A a->∃xs,H a=some (.lst xs)):∀(d:Qb)(x:V),nl d=true->Dat H x d->DA A H x d
 |.none,_,_,.non=>.non
 |.bool _,_,_,.bl _=>.bl _
 |.int _,_,_,.int _=>.int _
 |.str _,_,_,.str _ c=>.str _ c
 |.tuple ds,_,n,.tup (xs:=xs) e q=>.tup (λz=>by obtain⟨ys,e'⟩:=dm _ z;rw[e'] at e;cases e) e (Qik dm ds xs n q)
 |.list _,_,n,_=>by cases n
theorem Qik{A:Addr->Prop}{H:Hp}(dm:∀a,A a->∃xs,H a=some (.lst xs)):∀(ds:List Qb)(xs:List V),nls ds=true->Dats H xs ds->DAs A H xs ds
 |[],_,_,.nil=>.nil
 |d::ds,_,n,.cons (x:=x) (xs:=xs) q qs=>by
  have n':=QU.mp (show(nl d&&nls ds)=true from n);exact .cons (Qpa dm d x n'.1 q) (Qik dm ds xs n'.2 qs)
end
theorem Qge:∀L:List (Int×Int),nls (L.map pairD)=true
 |[]=>rfl
 |p::L=>by
  show(nl (pairD p)&&nls (L.map pairD))=true;rw[Qge L];rfl
theorem QwZ(h w:Int)(L:List (Int×Int)):nl (bdD h w L)=true:=by
 show(true&&(true&&(nls (L.map pairD)&&true)))=true;rw[Qge];rfl
def Qpz:DF:=λargs R _=>∃(h w:Nat)(f:Nat->Nat->Bool),args=[.v (bdD h w (cellsF h w f))]/\1<=h/\h<=6/\1<=w/\w<=6/\R (.str (Qbf h w (cellsF h w f)))
def Qwx:DF:=λargs R _=>∃(h w:Nat)(f:Nat->Nat->Bool),args=[.v (.str (Qbf h w (cellsF h w f)))]/\1<=h/\h<=6/\1<=w/\w<=6/\R (bdD h w (cellsF h w f))
theorem QoX{h w:Nat}(f:Nat->Nat->Bool)(h6:h<=6)(w6:w<=6):Good h w (cellsF h w f):=⟨(pw_cellsF w f h).imp λ{a b} hp=>hp,λx hx=>YD hx,QJ (QaC w f h) (Yl h6 w6)⟩
theorem Qvb{A:Addr->Prop}{H:Hp}:∀(L:List (Int×Int))(ps:List V),DAs A H ps (L.map pairD)->∃B:Nat,∀p:Nat,B<=p->Cs p H ps L
 |[],_,.nil=>⟨0,λp _=>.nil⟩
 |ij::L,_,.cons q qs=>by
  obtain⟨B,hB⟩:=Qvb L _ qs;cases q with
  |@tup d xs _ nd e q=>
   cases q with
   |cons q1 q=>cases q with
    |cons q2 q=>
     cases q;cases q1;cases q2;refine⟨B+(show Nat from d)+1,λp hp=>.cons ⟨d,λz=>?_,rfl,e⟩ (hB p (by omega))⟩;have:(show Nat from d)=p:=z;omega
theorem Qn3{A:Addr->Prop}{H:Hp}{v:V}{h w:Nat}{f:Nat->Nat->Bool}(h1:1<=h)(h6:h<=6)(w1:1<=w)(w6:w<=6)(q:DA A H v (bdD h w (cellsF h w f))):∃p q,v=.ref q/\BoardAt p H q h w (cellsF h w f):=by
 cases q with
 |@tup a xs _ na e q=>
  cases q with
  |cons q1 q=>cases q with
   |cons q2 q=>cases q with
    |cons q3 q=>
     cases q;cases q1;cases q2;cases q3 with
     |@tup c ps _ nc ec qc=>
      obtain⟨B,hB⟩:=Qvb _ _ qc;have ex:∀x y:Nat,∃N:Nat,B<=N/\x≠N/\y≠N:=λx y=>⟨B+x+y+1,by omega,by omega,by omega⟩
      obtain⟨N,n1,n2,n3⟩:=ex a c;exact⟨N,a,rfl,⟨n2,⟨c,ps,n3,e,ec,hB N n1⟩,by omega,by omega,by omega,by omega,QoX f h6 w6⟩⟩
theorem Qwk{vs:List V}{H:Hp}{Q:VK}{Ex:XK}(h:Zb false Qpz vs H Q Ex):QfW vs H Q Ex:=by
 obtain⟨A,pt,args,R,EX,dm,hp,q,⟨hh,w,f,rfl,h1,h6,w1,w6,hR⟩,k,_⟩:=h;cases q with
 |cons q1 q2=>
  cases q2;obtain⟨p,q,rfl,B⟩:=Qn3 h1 h6 w1 w6 q1;refine⟨p,q,hh,w,_,rfl,B,λH' s=>k _ hR _ H' ⟨λb o _ e=>s _ _ e,λp pp=>?_⟩ ?_ λh=>by cases h⟩
  ·obtain⟨_,m,em⟩:=hp p pp;exact⟨m,s _ _ em⟩
  ·exact .str _ (Qpy _ h1)
theorem Qyn{CT:Addr}{vs:List V}{H:Hp}{Q:VK}{Ex:XK}(h:Zb false Qwx vs H Q Ex):Qow CT vs H Q Ex:=by
 obtain⟨A,pt,args,R,EX,dm,hp,q,⟨hh,w,f,rfl,h1,h6,w1,w6,hR⟩,k,_⟩:=h;cases q with
 |cons q1 q2=>
  cases q2;cases q1;have g:Qlh (.str (Qbf hh w (cellsF hh w f)))=true:=by
   show YC (JB (Qbf hh w (cellsF hh w f)) csB)=true;rw[Qdu h1];exact QbI h1 h6 w1 w6
  refine⟨0,_,rfl,trivial,λt e=>?_,λz=>?_,λ_ v H' s dt=>k _ hR v H' ⟨λb o _ e=>s _ _ e,λp pp=>?_⟩ ?_ λh=>by cases h⟩
  ·cases e;have:=Qmm (cellsF hh w f) h6 w6;omega
  ·rw[g] at z;cases z
  ·obtain⟨_,m,em⟩:=hp p pp;exact⟨m,s _ _ em⟩
  ·have e:=Qf1 (QoX f h6 w6) h1 h6 w1 w6;rw[QpW,if_pos g] at e;rw[e] at dt;exact Qpa (λa z=>by obtain⟨xs,e⟩:=dm a z;exact⟨xs,s _ _ e⟩) _ _ (QwZ _ _ _) dt
section
variable{P:Qz}{w:Jf}{K:PySem.W.Frag}{mg:Str->Option Value}{base:JR}
theorem QhV:Jq ["thing", "high", "wide", "cells"] ["thing"] (Qt Qeg):=⟨rfl,rfl,rfl,by decide +kernel,rfl,by decide +kernel,by decide +kernel⟩
theorem Qus{f f1 f2  : Addr}{fd fd1 fd2:QN}(hA:∃t,mg "MOST_LINES" = some (.int 6 t))(F:Fun K "is_board" "is_board" Qeg f fd)(T:GlbA mg)
  (m1:mg "is_whole_within" = some (.ref f1))(G1:FnOk P w K mg base CX0 2 f1 fd1 ["thing", "least", "most"] (Zb false Qcw))(b1:Binds K fd1 ["thing", "least", "most"] [])(k1:PySem.W.keepIn K (.ref f1)=true)
  (m2:mg "is_cells" = some (.ref f2))(G2:FnOk P w K mg base CX0 4 f2 fd2 ["high", "wide", "thing"] (Zb false QlG))(b2:Binds K fd2 ["high", "wide", "thing"] [])(k2:PySem.W.keepIn K (.ref f2)=true) :
  FnOk P w K mg base CX0 5 f fd ["thing"] (Zb false Qxe):=by
 refine okQ false F QhV (λargs R EX h=>?_) (λcdv A outer s H E hr=>?_)
 ·obtain⟨h,w,f,rfl,_⟩:=h;rfl
 ·obtain⟨tA,mA⟩:=hA;have hU:=Room.u60 hr;have hI:=Room.i60 hr;refine⟨_,QX (Qas (Qjw (QbN (Ya (YB (Q7 (QcV .tuple (by rfl) T.isinstance (qp 0) (by rfl) T.tuple Zv)))) (QaX (ZR YO (QbD hU) (Q7 (Zr ZZ QbJ (by rfl) T.len YF (QbO (qp 0) Jw))) (Jn JO) (J3 _))))) (Jc (Zp QfB)) Zj)
   (QX (Qf2 (qv 0) (Qbj rfl (JV 1 (JV 2 (JV 3 Qbk QhV.nd rfl (by first | exact Q1 rfl | exact QY rfl)) QhV.nd rfl (by first | exact Q1 rfl | exact QY rfl)) QhV.nd rfl (by first | exact Q1 rfl | exact QY rfl))))
   (QX (Qas (Qjw (QbN (Ya (YB (Jn (Jp G1 (hr.mono (by decide)) (by rfl) m1 k1 b1 JG (JW (qv 1) (JW JO (JW (QoD 6 (by rfl) mA ⟨_,rfl⟩) Q6))))))) (QaX (Ya (YB (Jn (Jp G1 (hr.mono (by decide)) (by rfl) m1 k1 b1 JG (JW (qv 2) (JW JO (JW (QoD 6 (by rfl) mA ⟨_,rfl⟩) Q6)))))))))) (Jc (Zp QfB)) Zj)
   (Jc (Zp (Jp G2 (hr.mono (by decide)) (by rfl) m2 k2 b2 JG (JW (qv 1) (JW (qv 2) (JW (qv 3) Q6)))))))),λargs R EX h=>?_⟩
  obtain⟨h,w,f,rfl,h1,h6,w1,w6,hR⟩:=h;refine⟨rfl,_,_,_,rfl,?_⟩;rw[show inW (.int (h:Int)) 1 6=true from Qi7 (by omega) (by omega)];refine⟨_,_,_,rfl,?_⟩;rw[show inW (.int (w:Int)) 1 6=true from Qi7 (by omega) (by omega)];refine⟨_,_,_,rfl,?_⟩;rw[Qsv];exact hR
theorem Qbw:(["new_row", "row", "new_column", "column", "cells", "columns"]:List Str).Nodup:=by decide +kernel
theorem Qdh:Jq ["board", "rows", "columns", "cells", "kept"] ["board", "rows", "columns"] (Qt QcB):=⟨rfl,rfl,rfl,by decide +kernel,rfl,by decide +kernel,by decide +kernel⟩
theorem QkP{f   : Addr}{fd  : QN}(F:Fun K "picked" "picked" QcB f fd)(T:GlbA mg) :
  FnOk P w K mg base CX0 1 f fd ["board", "rows", "columns"] (Zb false Qnh):=by
 refine okQ false F Qdh (λargs R EX h=>?_) (λcdv A outer s H E hr=>?_)
 ·obtain⟨b,h,w,f,rs,ms,rfl,_⟩:=h;rfl
 ·have hU:=Room.u60 hr;have hI:=Room.i60 hr;refine⟨_,QX (Qaj 3 (QdU ZS Qae (qp 0) (Jn JO) (λ_ _=>rfl)) Qdh.nd)
   (QX (Qh2 ["new_row", "row", "new_column", "column", "cells", "columns"] [none,none,none,none,some 3,some 2] 4 Qdh.nd (Qsg [0,1]) (Qp4 (Qh3 (by rfl) T.enumerate (qp 1)) (Qe1 (by rfl) T.enumerate (qp 1))) (λcl ex s3 H3 C=>⟨(Qbj rfl (JV 0 (JV 1 Qbk Qbw rfl (Q1 rfl) (QY rfl)) Qbw rfl (Q1 rfl) (QY rfl))),Qar,(Qp4 (Qh3 (by rfl) T.enumerate (qv 5)) (Qe1 (by rfl) T.enumerate (qv 5))),(Qbj rfl (JV 2 (JV 3 Qbk Qbw rfl (Q1 rfl) (QY rfl)) Qbw rfl (Q1 rfl) (QY rfl))),(QcD (ZR Quh (QrY hI) (Q7 (QcE (Qak (qv 1) (Qak (qv 3) Jw)))) (qp 4) (by rfl))),(Zn (QcE (Qak (qv 0) (Qak (qv 2) Jw))))⟩))
   (Jc (Y2 (QcE (Qak (Zn (Zr ZZ QbJ (by rfl) T.len YF (QbO (qp 1) Jw))) (Qak (Zn (Zr ZZ QbJ (by rfl) T.len YF (QbO (qp 2) Jw))) (Qak (Zn (YS Za Qan (by rfl) T.tuple Zv (QbO (qp 4) Jw))) Jw))))))),λargs R EX h=>?_⟩
  obtain⟨b,h,w,f,rs,ms,rfl,r6,m6,hr,hm,hR⟩:=h;have hR:R (bdD ((rs.map λ(x:Nat)=>(x:Int)).length:Nat) ((ms.map λ(x:Nat)=>(x:Int)).length:Nat) (Qr6 (cellsF h w f) (rs.map λ(x:Nat)=>(x:Int)) (ms.map λ(x:Nat)=>(x:Int)))):=by
   rw[Qw7 hr hm,Qe,Qe];exact hR
  have hr:(rs.map λ(x:Nat)=>(x:Int)).length<=60:=by rw[Qe];omega
  have hc:(ms.map λ(x:Nat)=>(x:Int)).length<=60:=by rw[Qe];omega
  unfold Qwt;rw[QnL,QnL];clear hm r6 m6;generalize (rs.map λ(x:Nat)=>(x:Int))=rows at *;generalize (ms.map λ(x:Nat)=>(x:Int))=cols at *;generalize cellsF h w f=cs at *;refine⟨_,Zd (j:=2) rfl,?_⟩;cases b with
  |true=>
   have lN:=Qfc cs cols (λr=>rows.getD r 0) rows.length;have l36:rows.length*cols.length<=60*60:=Yl hr hc;refine .inl (Qhv (QmQ cs cols) 3600 (by rw[Qe4,Qe];exact QJ lN l36) (λd hd acc N hb hN=>?_) ?_)
   ·obtain⟨i,hi⟩:=Jt.mp hd;obtain⟨e,he,rfl⟩:=QaP hi;rw[Qr] at he;obtain⟨r,er,rfl⟩:∃r,rows[i]? = some r/\e=.int r:=by
     cases z:rows[i]? with
     |none=>rw[z] at he;cases he
     |some r=>rw[z] at he;cases he;exact⟨r,rfl,rfl⟩
    have hN:N (acc++(Qjx cs cols ((i:Int)).toNat r).map pairD):=hN;rw[QD,<- QoT] at hN;have la:acc.length<=3600:=by omega
    refine⟨rfl,.inl (Qsf (QsU cs r i) (by rw[QaO,Qe];unfold Qk7;omega) (λd hd k1 k2 h1 h2=>?_) hN)⟩;obtain⟨j,hj⟩:=Jt.mp hd;obtain⟨e2,he2,rfl⟩:=QaP hj;rw[Qr] at he2;obtain⟨c,ec,rfl⟩:∃c,cols[j]? = some c/\e2=.int c:=by
     cases z:cols[j]? with
     |none=>rw[z] at he2;cases he2
     |some r=>rw[z] at he2;cases he2;exact⟨r,rfl,rfl⟩
    refine⟨rfl,⟨QaB cs,rfl,QJ (QaQ (r,c)) (by decide)⟩,?_⟩;show if((cs.map pairD).any λe=>QL e (pairD (r,c)))=true then k2 (pairD ((i:Int),(j:Int))) else k1
    rw[QdJ];have h1:(if(r,c)∈cs then some (pairD ((i:Int),(j:Int))) else none)=none->k1:=h1;have h2:∀e,(if(r,c)∈cs then some (pairD ((i:Int),(j:Int))) else none)=some e->k2 e:=h2
    by_cases z:(r,c)∈cs
    ·rw[if_pos (decide_eq_true z)];exact h2 _ (if_pos z)
    ·rw[if_neg (by simpa using z)];exact h1 (if_neg z)
   ·rw[Qe4];have hR:R (.tuple [.int ((rows.map Qs).length:Int),.int ((cols.map Qs).length:Int),.tuple ((Qr6 cs rows cols).map pairD)]):=by
     rw[Qe,Qe];exact hR
    exact hR
  |false=>
   have lN:=Qfc cs cols (λr=>rows.getD r 0) rows.length;have l36:rows.length*cols.length<=60*60:=Yl hr hc;refine .inr (Qhv (QmQ cs cols) 3600 (by rw[Qe4,Qe];exact QJ lN l36) (λd hd acc N hb hN=>?_) ?_)
   ·obtain⟨i,hi⟩:=Jt.mp hd;obtain⟨e,he,rfl⟩:=QaP hi;rw[Qr] at he;obtain⟨r,er,rfl⟩:∃r,rows[i]? = some r/\e=.int r:=by
     cases z:rows[i]? with
     |none=>rw[z] at he;cases he
     |some r=>rw[z] at he;cases he;exact⟨r,rfl,rfl⟩
    have hN:N (acc++(Qjx cs cols ((i:Int)).toNat r).map pairD):=hN;rw[QD,<- QoT] at hN;have la:acc.length<=3600:=by omega
    refine⟨rfl,.inr (Qsf (QsU cs r i) (by rw[QaO,Qe];unfold Qk7;omega) (λd hd k1 k2 h1 h2=>?_) hN)⟩;obtain⟨j,hj⟩:=Jt.mp hd;obtain⟨e2,he2,rfl⟩:=QaP hj;rw[Qr] at he2;obtain⟨c,ec,rfl⟩:∃c,cols[j]? = some c/\e2=.int c:=by
     cases z:cols[j]? with
     |none=>rw[z] at he2;cases he2
     |some r=>rw[z] at he2;cases he2;exact⟨r,rfl,rfl⟩
    refine⟨rfl,⟨QaB cs,rfl,QJ (QaQ (r,c)) (by decide)⟩,?_⟩;show if((cs.map pairD).any λe=>QL e (pairD (r,c)))=true then k2 (pairD ((i:Int),(j:Int))) else k1
    rw[QdJ];have h1:(if(r,c)∈cs then some (pairD ((i:Int),(j:Int))) else none)=none->k1:=h1;have h2:∀e,(if(r,c)∈cs then some (pairD ((i:Int),(j:Int))) else none)=some e->k2 e:=h2
    by_cases z:(r,c)∈cs
    ·rw[if_pos (decide_eq_true z)];exact h2 _ (if_pos z)
    ·rw[if_neg (by simpa using z)];exact h1 (if_neg z)
   ·rw[Qe4];have hR:R (.tuple [.int ((rows.map Qs).length:Int),.int ((cols.map Qs).length:Int),.tuple ((Qr6 cs rows cols).map pairD)]):=by
     rw[Qe,Qe];exact hR
    exact hR
theorem Qtv:Jq ["board", "rows", "columns"] ["board", "rows", "columns"] (Qt sLed):=⟨rfl,rfl,rfl,by decide +kernel,rfl,by decide +kernel,by decide +kernel⟩
theorem Qup{f f1 f2  : Addr}{fd fd1 fd2:QN}(F:Fun K "led" "led" sLed f fd)(T:GlbA mg)
  (m1:mg "is_order" = some (.ref f1))(G1:FnOk P w K mg base CX0 3 f1 fd1 ["many", "thing"] (Zb false Qxd))(b1:Binds K fd1 ["many", "thing"] [])(k1:PySem.W.keepIn K (.ref f1)=true)
  (m2:mg "picked" = some (.ref f2))(G2:FnOk P w K mg base CX0 1 f2 fd2 ["board", "rows", "columns"] (Zb false Qnh))(b2:Binds K fd2 ["board", "rows", "columns"] [])(k2:PySem.W.keepIn K (.ref f2)=true) :
  FnOk P w K mg base CX0 4 f fd ["board", "rows", "columns"] (Zb false Qr7):=by
 refine okQ false F Qtv (λargs R EX h=>?_) (λcdv A outer s H E hr=>?_)
 ·obtain⟨h,w,f,rs,ms,rfl,_⟩:=h;rfl
 ·have hU:=Room.u60 hr;have hI:=Room.i60 hr;refine⟨_,QX (Qas (Ya (YB (Jn (Jp G1 (hr.mono (by decide)) (by rfl) m1 k1 b1 JG (JW (QdU ZS Qae (qp 0) (Jn JO) (λ_ _=>rfl)) (JW (qv 1) Q6)))))) Qb8 Zj)
   (QX (Qas (Ya (YB (Jn (Jp G1 (hr.mono (by decide)) (by rfl) m1 k1 b1 JG (JW (QdU ZS Qae (qp 0) (Jn JO) (λ_ _=>rfl)) (JW (qv 2) Q6)))))) Qb8 Zj)
   (Jc (Zp (Jp G2 (hr.mono (by decide)) (by rfl) m2 k2 b2 JG (JW (qv 0) (JW (qv 1) (JW (qv 2) Q6))))))),λargs R EX h=>?_⟩
  obtain⟨h,w,f,rs,ms,rfl,h6,w6,hr,hm,hR⟩:=h;refine⟨_,Zd (j:=0) rfl,h,rs,rfl,h6,hr,_,Zd (j:=1) rfl,w,ms,rfl,w6,hm,?_⟩;have l1:=Z5 hr;have l2:=Z5 hm;refine⟨true,h,w,f,rs,ms,rfl,by omega,by omega,QcJ hr,QcJ hm,?_⟩;unfold Qw8;rw[l1,l2];exact hR
theorem Qny:(["part", "many"]:List Str).Nodup:=by decide +kernel
theorem QpQ:Jq ["many", "thing"] ["many", "thing"] (Qt QiO):=⟨rfl,rfl,rfl,by decide +kernel,rfl,by decide +kernel,by decide +kernel⟩
theorem QrT{f f1 f2  : Addr}{fd fd1 fd2:QN}(F:Fun K "is_numbers_rising" "is_numbers_rising" QiO f fd)(T:GlbA mg)
  (m1:mg "is_whole_within" = some (.ref f1))(G1:FnOk P w K mg base CX0 2 f1 fd1 ["thing", "least", "most"] (Zb false Qcw))(b1:Binds K fd1 ["thing", "least", "most"] [])(k1:PySem.W.keepIn K (.ref f1)=true)
  (m2:mg "is_rising" = some (.ref f2))(G2:FnOk P w K mg base CX0 1 f2 fd2 ["things"] (Zb false QeX))(b2:Binds K fd2 ["things"] [])(k2:PySem.W.keepIn K (.ref f2)=true) :
  FnOk P w K mg base CX0 3 f fd ["many", "thing"] (Zb false QkY):=by
 refine okQ false F QpQ (λargs R EX h=>?_) (λcdv A outer s H E hr=>?_)
 ·obtain⟨n,o,rfl,_⟩:=h;rfl
 ·have hU:=Room.u60 hr;have hI:=Room.i60 hr;refine⟨_,QX (Qas (Ya (YB (Q7 (QcV .tuple (by rfl) T.isinstance (qp 1) (by rfl) T.tuple Zv)))) (Jc (Zp QfB)) Zj)
   (Jc (Zp (Qg3 (Q7 (Zr Qbz (Qiq rfl) (by rfl) T.all Qey (QbO (Q7 (QaZ ["part", "many"] [none,some 0] (Qf3 (qp 1)) (λcl ex s3 H3 C=>⟨(ZT 0 Qny rfl (Q1 rfl) (QY rfl)),Qar,(Jp G1 (hr.mono (by decide)) (by rfl) m1 k1 b1 JG (JW (qv 0) (JW JO (JW (Zn (Qad Qgb Qeo (qp 1) (Jn JO))) Q6))))⟩))) Jw))) (Qg2 (Jp G2 (hr.mono (by decide)) (by rfl) m2 k2 b2 JG (JW (qv 1) Q6)))))),λargs R EX h=>?_⟩
  obtain⟨n,o,rfl,hp,hl,hR⟩:=h;refine Qci (λ_=>.bool true) (λd hd k2 hk=>?_) (QdL (g:=λ_=>true) (items:=YQ o) rfl ?_)
  ·unfold YQ at hd;obtain⟨x,hx,rfl⟩:=QF.mp hd;have:=hl x hx;refine⟨_,_,_,rfl,?_⟩;rw[show inW (.int (x:Int)) 0 ((n:Int) - 1)=true from Qi7 (by omega) (by omega)];exact hk
  ·rw[JL.mpr λ_ _=>rfl];refine Qgk ⟨_,.inl rfl,Qxv o,?_⟩;rw[QtC hp];exact hR
theorem QmA:Jq ["board", "thing"] ["board", "thing"] (Qt Qee):=⟨rfl,rfl,rfl,by decide +kernel,rfl,by decide +kernel,by decide +kernel⟩
theorem Qnq{f f1  : Addr}{fd fd1:QN}(F:Fun K "is_lines" "is_lines" Qee f fd)(T:GlbA mg)
  (m1:mg "is_numbers_rising" = some (.ref f1))(G1:FnOk P w K mg base CX0 3 f1 fd1 ["many", "thing"] (Zb false QkY))(b1:Binds K fd1 ["many", "thing"] [])(k1:PySem.W.keepIn K (.ref f1)=true) :
  FnOk P w K mg base CX0 4 f fd ["board", "thing"] (Zb false Qhe):=by
 refine okQ false F QmA (λargs R EX h=>?_) (λcdv A outer s H E hr=>?_)
 ·obtain⟨h,w,cs,a,b,rfl,_⟩:=h;rfl
 ·have hU:=Room.u60 hr;have hI:=Room.i60 hr;refine⟨_,QX (Qas (Qjw (QbN (Ya (YB (Q7 (QcV .tuple (by rfl) T.isinstance (qp 1) (by rfl) T.tuple Zv)))) (QaX (ZR YO (QbD hU) (Q7 (Zr ZZ QbJ (by rfl) T.len YF (QbO (qp 1) Jw))) (Jn JO) (J3 _))))) (Jc (Zp QfB)) Zj)
   (Jc (Zp (Qg3 (Jn (Jp G1 (hr.mono (by decide)) (by rfl) m1 k1 b1 JG (JW (QdU ZS Qae (qp 0) (Jn JO) (λ_ _=>rfl)) (JW (QdU ZS Qae (qp 1) (Jn JO) (λ_ _=>rfl)) Q6)))) (Qg2 (Jp G1 (hr.mono (by decide)) (by rfl) m1 k1 b1 JG (JW (QdU ZS Qae (qp 0) (Jn JO) (λ_ _=>rfl)) (JW (QdU ZS Qae (qp 1) (Jn JO) (λ_ _=>rfl)) Q6))))))),λargs R EX h=>?_⟩
  obtain⟨h,w,cs,a,b,rfl,pa,la,pb,lb,hR⟩:=h;refine⟨_,Zd (j:=0) rfl,_,Zd (j:=0) rfl,h,a,rfl,pa,la,?_⟩;exact⟨_,Zd (j:=1) rfl,_,Zd (j:=1) rfl,w,b,rfl,pb,lb,hR⟩
theorem QpP:Jq ["board", "lines", "rows", "columns"] ["board", "lines"] (Qt sWl):=⟨rfl,rfl,rfl,by decide +kernel,rfl,by decide +kernel,by decide +kernel⟩
theorem QwX{f f1 f2 f3  : Addr}{fd fd1 fd2 fd3:QN}(F:Fun K "without_lines" "without_lines" sWl f fd)(T:GlbA mg)
  (m1:mg "is_lines" = some (.ref f1))(G1:FnOk P w K mg base CX0 4 f1 fd1 ["board", "thing"] (Zb false Qhe))(b1:Binds K fd1 ["board", "thing"] [])(k1:PySem.W.keepIn K (.ref f1)=true)
  (m2:mg "others" = some (.ref f2))(G2:FnOk P w K mg base CX0 1 f2 fd2 ["many", "numbers"] (Zb false QwS))(b2:Binds K fd2 ["many", "numbers"] [])(k2:PySem.W.keepIn K (.ref f2)=true)
  (m3:mg "picked" = some (.ref f3))(G3:FnOk P w K mg base CX0 1 f3 fd3 ["board", "rows", "columns"] (Zb false Qnh))(b3:Binds K fd3 ["board", "rows", "columns"] [])(k3:PySem.W.keepIn K (.ref f3)=true) :
  FnOk P w K mg base CX0 5 f fd ["board", "lines"] (Zb false Qwl):=by
 refine okQ false F QpP (λargs R EX h=>?_) (λcdv A outer s H E hr=>?_)
 ·obtain⟨h,w,f,a,b,rfl,_⟩:=h;rfl
 ·have hU:=Room.u60 hr;have hI:=Room.i60 hr;refine⟨_,QX (Qas (Ya (YB (Jn (Jp G1 (hr.mono (by decide)) (by rfl) m1 k1 b1 JG (JW (qv 0) (JW (qv 1) Q6)))))) Qb8 Zj)
   (QX (Qaj 2 (Jp G2 (hr.mono (by decide)) (by rfl) m2 k2 b2 JG (JW (QdU ZS Qae (qp 0) (Jn JO) (λ_ _=>rfl)) (JW (QdU ZS Qae (qp 1) (Jn JO) (λ_ _=>rfl)) Q6))) QpP.nd)
   (QX (Qaj 3 (Jp G2 (hr.mono (by decide)) (by rfl) m2 k2 b2 JG (JW (QdU ZS Qae (qp 0) (Jn JO) (λ_ _=>rfl)) (JW (QdU ZS Qae (qp 1) (Jn JO) (λ_ _=>rfl)) Q6))) QpP.nd)
   (QX (Qas (Qjw (QbN (Ya (Qh1 (qp 2))) (QaX (Ya (Qh1 (qp 3)))))) Qb8 Zj)
   (Jc (Zp (Jp G3 (hr.mono (by decide)) (by rfl) m3 k3 b3 JG (JW (qv 0) (JW (qv 2) (JW (qv 3) Q6))))))))),λargs R EX h=>?_⟩
  obtain⟨h,w,f,a,b,rfl,h6,w6,pa,la,pb,lb,na,nb,hR⟩:=h;refine⟨h,w,_,a,b,rfl,pa,la,pb,lb,_,Zd (j:=0) rfl,_,Zd (j:=0) rfl,h,a,rfl,h6,_,Zd (j:=1) rfl,_,Zd (j:=1) rfl,w,b,rfl,w6,?_⟩;have l1:=Qe7 h a;have l2:=Qe7 w b;have m1:∀x∈oth h a,x<h:=λx hx=>Qw.mp (QP.mp hx).1
  have m2:∀x∈oth w b,x<w:=λx hx=>Qw.mp (QP.mp hx).1
  have go:∀A B:List Nat,A=oth h a->B=oth w b->strOk (.list (YQ A))/\True:=λA B e1 e2=>⟨trivial,trivial⟩
  cases e1:oth h a with
  |nil=>exact absurd e1 na
  |cons x r=>
   cases e2:oth w b with
   |nil=>exact absurd e2 nb
   |cons y q=>
    rw[e1,e2] at hR;rw[e1] at l1 m1;rw[e2] at l2 m2;exact⟨trivial,trivial,false,h,w,f,x::r,y::q,rfl,by omega,by omega,m1,m2,hR⟩
end
theorem Qga{n:Nat}:∀{i:Nat}{o:List Nat},o.length=i->o.Nodup->(∀x∈o,x<n)->o∈YH n i
 |0,o,l,_,_=>by rw[List.length_eq_zero_iff.mp l];exact .head _
 |i+1,o,l,nd,lt=>by
  have ne:o≠[]:=λz=>by rw[z] at l;cases l
  have e:=List.dropLast_concat_getLast ne;rw[<- e] at nd lt l ⊢;rw[QM] at l;obtain⟨n1,_,n3⟩:=Qba.mp nd;refine J8.mpr ⟨_,Qga (by simpa using l) n1 λx hx=>lt x (Qcp _ hx),QF.mpr ⟨_,QP.mpr ⟨Qw.mpr (lt _ (Jk _ (.head _))),?_⟩,rfl⟩⟩;rw[QdS,decide_eq_false_iff_not];exact λhx=>n3 _ hx _ (.head _) rfl
theorem QjV{α:Type}{F:α->Int}{l m:List α}(p:l.Perm m):sumZ F l=sumZ F m:=by
 induction p with
 |nil=>rfl
 |cons x _ ih=>show F x+sumZ F _=F x+sumZ F _;rw[ih]
 |swap x y l=>show F y+(F x+sumZ F l)=F x+(F y+sumZ F l);omega
 |trans _ _ h1 h2=>exact h1.trans h2
theorem Qfp(f:Nat->Nat->Bool):∀(R C D:List Nat)(k:Nat),C.Perm D->Pf f R C k=Pf f R D k
 |[],_,_,_,_=>rfl
 |r::R,C,D,k,p=>by
  show Pf f R C k+(if k=0 then 0 else sumZ (λc=>Pf f R (wo1 C c) (k - 1)) (C.filter (f r)))=Pf f R D k+(if k=0 then 0 else sumZ (λc=>Pf f R (wo1 D c) (k - 1)) (D.filter (f r)));rw[Qfp f R C D k p,QjV (p.filter (f r)),Zm λc _=>Qfp f R (wo1 C c) (wo1 D c) (k - 1) (p.filter _)]
theorem Qoa(f:Nat->Nat->Bool){R S C:List Nat}(k:Nat)(p:R.Perm S)(nR:R.Nodup)(nC:C.Nodup):Pf f R C k=Pf f S C k:=by
 rw[QdM f C R k nC nR,QdM f C S k nC (p.nodup_iff.mp nR),Qfp (tF f) C R S k p]
theorem Qoq{g:Nat->Nat}:∀{C:List Nat}{c:Nat},(∀x∈C,∀y∈c::C,g x=g y->x=y)->(wo1 C c).map g=wo1 (C.map g) (g c)
 |[],_,_=>rfl
 |x::C,c,h=>by
  have ih:=Qoq (g:=g) (C:=C) (c:=c) λa ha b hb e=>h a (.tail _ ha) b (by
   rcases Qq.mp hb with z | z
   ·rw[z];exact .head _
   ·exact .tail _ (.tail _ z)) e
  unfold wo1 at ih ⊢;by_cases z:x=c
  ·rw[Je (by simp[z]),JT,Je (by simp[z]),ih]
  ·have gz:g x≠g c:=λe=>z (h x (.head _) c (.head _) e)
   rw[Jd (by simp[z]),JT,JT,Jd (by simp[gz]),ih]
theorem QlZ(f:Nat->Nat->Bool)(p q:Nat->Nat):∀(R C:List Nat)(k:Nat),(∀x∈C,∀y∈C,q x=q y->x=y)->Pf (λr c=>f (p r) (q c)) R C k=Pf f (R.map p) (C.map q) k
 |[],_,_,_=>rfl
 |r::R,C,k,h=>by
  show Pf (λr c=>f (p r) (q c)) R C k+(if k=0 then 0 else sumZ (λc=>Pf (λr c=>f (p r) (q c)) R (wo1 C c) (k - 1)) (C.filter λc=>f (p r) (q c)))=Pf f (R.map p) (C.map q) k+(if k=0 then 0 else sumZ (λc=>Pf f (R.map p) (wo1 (C.map q) c) (k - 1)) ((C.map q).filter (f (p r))));rw[QlZ f p q R C k h]
  congr 1
  by_cases z:k=0
  ·rw[if_pos z,if_pos z]
  ·rw[if_neg z,if_neg z,QsT];have e:∀l:List Nat,(∀c∈l,c∈C)->sumZ (λc=>Pf (λr c=>f (p r) (q c)) R (wo1 C c) (k - 1)) l=sumZ (λc=>Pf f (R.map p) (wo1 (C.map q) c) (k - 1)) (l.map q):=λl=>by
    induction l with
    |nil=>intro _;rfl
    |cons c l ih=>
     intro hl;have hc:=hl c (.head _);show Pf (λr c=>f (p r) (q c)) R (wo1 C c) (k - 1)+sumZ _ l=Pf f (R.map p) (wo1 (C.map q) (q c)) (k - 1)+sumZ _ (l.map q);rw[ih λd hd=>hl d (.tail _ hd),QlZ f p q R (wo1 C c) (k - 1) λx hx y hy=>h x (Qhd.mp hx).1 y (Qhd.mp hy).1,Qoq λx hx y hy=>h x hx y (by
      rcases Qq.mp hy with z | z
      ·rw[z];exact hc
      ·exact z)]
   exact e _ λc hc=>(QP.mp hc).1
theorem Qn9(f:Nat->Nat->Bool){h w:Nat}(h6:h<=6)(w6:w<=6)(k:Nat):Wc (cellsF w h (tF f)) w w 0 k=Wc (cellsF h w f) h h 0 k:=by
 rw[Qfn,Qfn,QeV ⟨h,by omega⟩,QeV ⟨w,by omega⟩];exact(QdM f _ _ k JK JK).symm
theorem Qgh{o:List Nat}{n:Nat}(h:o.length=n):(Qg n).map (λr=>o.getD r 0)=o:=by
 subst h;refine Z3 λk=>?_
 rw[Qr];by_cases z:k<o.length
 ·rw[Q9 z,Qf z];show some (o.getD k 0)=_;rw[Qi,Qf z];rfl
 ·rw[Q2 (by rw[Qv];omega),Q2 (by omega)];rfl
theorem Qvn(f:Nat->Nat->Bool){h w:Nat}{rs ms:List Nat}(h6:h<=6)(w6:w<=6)(hr:rs∈YH h h)(hm:ms∈YH w w)(k:Nat):Wc (cellsF h w λr c=>f (rs.getD r 0) (ms.getD c 0)) h h 0 k=Wc (cellsF h w f) h h 0 k:=by
 have pr:=QaA hr;have pm:=QaA hm;have nm:ms.Nodup:=pm.nodup_iff.mpr JK;rw[Qfn,Qfn,QeV ⟨h,by omega⟩];show Pf (λr c=>f (rs.getD r 0) (ms.getD c 0)) (Qg h) (Qg w) k=Pf f (Qg h) (Qg w) k;rw[QlZ f (λr=>rs.getD r 0) (λc=>ms.getD c 0) _ _ k,Qgh (Z5 hr),Qgh (Z5 hm),Qfp f rs ms (Qg w) k pm,Qoa f k pr (pr.nodup_iff.mpr JK) JK];intro x hx y hy e;have hx:=Qw.mp hx;have hy:=Qw.mp hy;have lm:=Z5 hm;rw[Qi,Qf (by omega),Qi,Qf (by omega)] at e;exact(Qps nm).mp e
theorem QhY(w:Nat)(f:Nat->Nat->Bool):∀h,(cellsF h w (Qdq f)).length+(cellsF h w f).length=h*w
 |0=>by show 0+0=0*w;rw[Nat.zero_mul]
 |h+1=>by
  rw[ZN,ZN,QM,QM,Qd6,<- QhY w f h];have:(QbC h w (Qdq f)).length+(QbC h w f).length=w:=by
   unfold QbC;rw[Qe,Qe];have:=Qdc (f h) (l:=Qg w);rw[Qv,Qag,Qag] at this;have e:(Qg w).filter (Qdq f h)=(Qg w).filter λx=>decide ¬f h x=true:=YL λx _=>by
    show(!f h x)=_;cases f h x<;>rfl
   rw[e];omega
  omega
theorem Qhm{o:List Nat}{x:Nat}(h:x∈o):o.getD (o.idxOf x) 0=x:=by
 have hl:=Qav h;rw[Qi,Qf hl,Qmh hl];rfl
end Rk
namespace Zt
section
variable{prog:Qz}{w:Jf}{A:Jb}{E:Value->Shared->Prop}{s:Shared}
end
def EsOk(es:Array (Int×Value))(S:List Nat):Prop:=∃tks:List Tok,tks.length=S.length/\es.toList=Qjq (λ(v:Nat)(tk:Tok)=>((v:Int),Qa1 (v:Int) tk)) S tks
theorem Qwj{S:List Nat}{e:Int×Value}:∀{tks:List Tok},e∈Qjq (λ(v:Nat)(tk:Tok)=>((v:Int),Qa1 (v:Int) tk)) S tks->∃v∈S,∃tk,e=((v:Int),.int v tk):=by
 induction S with
 |nil=>intro tks h;cases tks<;>cases h
 |cons x S ih=>
  intro tks h;cases tks with
  |nil=>cases h
  |cons t tks=>
   rcases Qq.mp h with z | z
   ·exact⟨x,.head _,t,z⟩
   ·obtain⟨v,hv,r⟩:=ih z;exact⟨v,.tail _ hv,r⟩
section
variable{prog:Qz}{w:Jf}{A:Jb}{E:Value->Shared->Prop}{s:Shared}
end
section
variable{prog:Qz}{w:Jf}{A:Jb}{R:Result->Shared->Prop}{I:Addr}{fp wr:List Addr}{n:Nat}{P:Nat->Value->Prop}{St:Nat->JR->Prop}
end
section
variable{prog:Qz}{w:Jf}{A:Jb}{E:Value->Shared->Prop}{s:Shared}
end
section
variable{prog:Qz}{w:Jf}{A:Jb}{E:Value->Shared->Prop}{s:Shared}
end
end Zt
namespace Zt
open PySem.W PySem.Calls Rs
section
variable{prog:Qz}{w:Jf}{A:Jb}{E:Value->Shared->Prop}{s:Shared}
end
end Zt
namespace L2
open Zt
section
variable{X:Cx}
end
end L2
namespace Dl
open L2 _root_.Rd Rk Zt
section
variable{X:Cx}{E:XK}
end
end Dl
namespace Rk
open L2 _root_.Rd Dl Rt
theorem Qpd{items:List Qb}{wg:DG}{wt:DT}{we:DE}{δ:Sts}{Q:Qb->Prop}(G:Qb->Qb)
  (h:∀d∈items,∀(k1:Prop)(k2:Qb->Prop),k1->k2 (G d)->wg d δ λδ4=>wt δ4 (λb=>if b=true then we δ4 k2 XF else k1) XF)(q:∀p:Nat->Bool,Q (.list (((Qg items.length).filter p).map λi=>G (items.getD i .none)))):QgF items wg wt we δ Q:=by
 unfold QgF;refine⟨λi acc=>∃p:Nat->Bool,acc=((Qg i).filter p).map λi=>G (items.getD i .none),⟨λ_=>false,rfl⟩,λi acc d hd ⟨p,e⟩=>?_,λacc ⟨p,e⟩=>by rw[e];exact q p⟩;have ed:items.getD i .none=d:=by rw[Qi,hd];rfl
 have same:∀b,(Qg i).filter (λn=>if n=i then b else p n)=(Qg i).filter p:=λb=>YL λn hn=>if_neg (by have:=Qw.mp hn;omega)
 refine h d (Ji hd) _ _ ⟨λn=>if n=i then false else p n,?_⟩ ⟨λn=>if n=i then true else p n,?_⟩
 ·rw[J6,QaG,same,Je (by simp),QsS,ZV];exact e
 ·rw[J6,QaG,same,Jd (by simp),QsS,Zg,<- e];show acc++[G d]=acc++[G (items.getD i .none)];rw[ed]
theorem Qa6(h w:Int)(cs:List (Int×Int)):nd (bdD h w cs)=true:=by
 show(true&&(true&&(nds (cs.map pairD)&&true)))=true;rw[QaB];rfl
theorem YT(h w:Int)(cs:List (Int×Int)):(bdD h w cs).depth<=50:=by
 show Ja [.int h,.int w,.tuple (cs.map pairD)]+1<=50;have:=QaR (n:=2) (ds:=[.int h,.int w,.tuple (cs.map pairD)]) λd hd=>by
  rcases Qq.mp hd with z | z
  ·subst z;exact Js _
  ·rcases Qq.mp z with z | z
   ·subst z;exact Js _
   ·rw[JS.mp z];exact Qhr cs
 omega
theorem Qlp:∀L:List (Int×Int),QL (.tuple (L.map pairD)) (.tuple (L.map pairD))=true
 |[]=>rfl
 |p::L=>by
  show(QL (pairD p) (pairD p)&&QL (.tuple (L.map pairD)) (.tuple (L.map pairD)))=true;rw[QdB,Qlp L];simp
theorem Qo4(h w:Int)(L:List (Int×Int)):QL (bdD h w L) (bdD h w L)=true:=by
 show((h == h)&&((w == w)&&(QL (.tuple (L.map pairD)) (.tuple (L.map pairD))&&true)))=true;rw[Qlp];simp
theorem Qgf{h w:Int}{L M:List (Int×Int)}(e:L=M):(!QL (bdD h w L) (bdD h w M))=false:=by rw[e,Qo4];rfl
theorem Qxm{h w:Int}{L M:List (Int×Int)}(e:L=M):QL (bdD h w L) (bdD h w M)=true:=by rw[e,Qo4]
theorem Qo2:∀l:List Int,QL (.list (l.map Qs)) (.list (l.map Qs))=true
 |[]=>rfl
 |n::l=>by
  show((n == n)&&QL (.list (l.map Qs)) (.list (l.map Qs)))=true;rw[Qo2 l];simp
theorem QlD(cs:List (Int×Int))(h w:Nat):QgN cs h w=((Qg (min h w+1)).map λk=>Wc cs h h 0 k).map Qs:=by unfold QgN;rw[Jo];rfl
theorem QoR{a b:List Qb}{cs:List (Int×Int)}{h w:Nat}(e:a=QgN cs h w)(e2:b=QgN cs h w):(!QL (.list a) (.list b))=false:=by rw[e,e2,QlD,Qo2];rfl
theorem Qib(cs:List (Int×Int))(h w:Nat):nd (.list (QgN cs h w))=true:=by rw[QlD];exact Qcf _
theorem Qo8(cs:List (Int×Int))(h w:Nat):(Zz (QgN cs h w)).depth<=50:=by
 rw[QlD];have:=QaR (n:=0) (ds:=((Qg (min h w+1)).map λk=>Wc cs h h 0 k).map Qs) λd hd=>by obtain⟨p,_,rfl⟩:=QF.mp hd;exact Qh _
 show Ja _+1<=50;omega
theorem QnZ(f:Nat->Nat->Bool){h w:Nat}(h6:h<=6)(w6:w<=6):QgN (cellsF w h (tF f)) w h=QgN (cellsF h w f) h w:=by
 unfold QgN;rw[Nat.min_comm w h];exact JY λk _=>by rw[Qn9 f h6 w6]
theorem Qsu(f:Nat->Nat->Bool){h w:Nat}{rs ms:List Nat}(h6:h<=6)(w6:w<=6)(hr:rs∈YH h h)(hm:ms∈YH w w):QgN (cellsF h w (QfC f rs ms)) h w=QgN (cellsF h w f) h w:=by
 unfold QgN;exact JY λk _=>by rw[show QfC f rs ms=λr c=>f (rs.getD r 0) (ms.getD c 0) from rfl,Qvn f h6 w6 hr hm]
theorem Qiu{n:Nat}{o:List Nat}(ho:o∈YH n n){x:Nat}(hx:x<n):o.getD ((QbF o).getD x 0) 0=x:=by
 have lo:=Z5 ho;have e:(QbF o).getD x 0=o.idxOf x:=by
  unfold QbF;rw[Qi,Qr,Q9 (by omega)];rfl
 rw[e,Qhm ((QaA ho).mem_iff.mpr (Qw.mpr hx))]
theorem Qit{n:Nat}{o:List Nat}(ho:o∈YH n n):QbF o∈YH n n:=by
 have lo:=Z5 ho;have po:=QaA ho;have mem:∀x,x<n->x∈o:=λx hx=>po.mem_iff.mpr (Qw.mpr hx)
 refine Qga (by unfold QbF;rw[Qe,Qv];exact lo) ?_ λy hy=>?_
 ·unfold QbF;refine Zw.mpr (Qab (λ{a b} ha hb hne e=>hne ?_) JK);have ha:=mem a (by have:=Qw.mp ha;omega);have hb:=mem b (by have:=Qw.mp hb;omega);rw[<- Qhm ha,<- Qhm hb,e]
 ·unfold QbF at hy;obtain⟨x,hx,rfl⟩:=QF.mp hy;have:=Qav (mem x (by have:=Qw.mp hx;omega));omega
theorem QnE{h w:Nat}{f:Nat->Nat->Bool}{rs ms:List Nat}(hr:rs∈YH h h)(hm:ms∈YH w w):cellsF h w (QfC (QfC f rs ms) (QbF rs) (QbF ms))=cellsF h w f:=by
 refine Qbn λr c hr' hc'=>?_
 show f (rs.getD ((QbF rs).getD r 0) 0) (ms.getD ((QbF ms).getD c 0) 0)=f r c;rw[Qiu hr hr',Qiu hm hc']
def fewN(h:Nat)(p:Nat->Bool):List Nat:=((Qg (h - 1)).filter p).map (·+1)
theorem Qo1(h:Nat)(p:Nat->Bool):(((Qg (QdT 1 ((h:Int) - 1).toNat).length).filter p).map λi=>(QdT 1 ((h:Int) - 1).toNat).getD i .none)=YQ (fewN h p):=by
 rw[Qdj];unfold fewN YQ;rw[Jo,show((h:Int) - 1).toNat=h - 1 by omega];refine JY λi hi=>?_
 have hi:=Qw.mp (QP.mp hi).1;unfold QdT;rw[Qi,Qr,Q9 hi];show Qs (1+(i:Int))=.int ((i+1:Nat):Int)
 congr 1
 omega
theorem QoZ(h:Nat)(p:Nat->Bool):(fewN h p).Pairwise (· < ·):=Zw.mpr ((Yw p YG).imp λ{a b} q=>by omega)
theorem Qo0{h:Nat}{p:Nat->Bool}:∀x∈fewN h p,x<h:=λx hx=>by
 obtain⟨i,hi,rfl⟩:=QF.mp hx;have:=Qw.mp (QP.mp hi).1;omega
theorem Qhq{h:Nat}{p:Nat->Bool}(h1:1<=h):oth h (fewN h p)≠[]:=by
 have:0∈oth h (fewN h p):=QP.mpr ⟨Qw.mpr (by omega),by
  have:0∉fewN h p:=λz=>by obtain⟨i,_,e⟩:=QF.mp z;omega
  simpa using this⟩
 intro e;rw[e] at this;cases this
theorem QoN{h:Nat}{p:Nat->Bool}(h1:1<=h):1<=(oth h (fewN h p)).length:=List.length_pos_iff.mpr (Qhq h1)
theorem QnR(s:Str):decide (s=s)=true:=decide_eq_true rfl
theorem Qyv(f:Nat->Nat->Bool):Qdq (Qdq f)=f:=by
 funext r c
 show(!(!f r c))=f r c;rw[Bool.not_not]
section
variable{P:Qz}{w:Jf}{K:PySem.W.Frag}{mg:Str->Option Value}{base:JR}
theorem QiX:(["_law_row", "_law_pot_here"]:List Str).Nodup:=by decide +kernel
theorem QiW:(["_law_column", "_law_pot_here"]:List Str).Nodup:=by decide +kernel
theorem Ym:Jq ["_law_pot_here", "_law_board_here", "_law_high", "_law_wide", "_law_cells", "_law_rows", "_law_columns", "_law_about", "_law_left", "_law_other", "_law_few", "_law_more", "_law_less"] ["_law_pot_here", "_law_board_here"] (Qt Qer):=⟨rfl,rfl,rfl,by decide +kernel,rfl,by decide +kernel,by decide +kernel⟩
theorem QkQ{f f1 f2 f3 f4 f5 f6 f7 f8 f9 f10 f11  : Addr}{fd fd1 fd2 fd3 fd4 fd5 fd6 fd7 fd8 fd9 fd10 fd11:QN}(F:Fun K "_law_right" "_law_right" Qer f fd)(T:GlbA mg)
  (m1:mg "_law_order" = some (.ref f1))(G1:FnOk P w K mg base CX0 2 f1 fd1 ["_law_pot_here", "_law_many"] (Zb false Qk5))(b1:Binds K fd1 ["_law_pot_here", "_law_many"] [])(k1:PySem.W.keepIn K (.ref f1)=true)
  (m2:mg "turned" = some (.ref f2))(G2:FnOk P w K mg base CX0 2 f2 fd2 ["board"] (Zb false QpE))(b2:Binds K fd2 ["board"] [])(k2:PySem.W.keepIn K (.ref f2)=true)
  (m3:mg "rest" = some (.ref f3))(G3:FnOk P w K mg base CX0 1 f3 fd3 ["board"] (Zb false Qkd))(b3:Binds K fd3 ["board"] [])(k3:PySem.W.keepIn K (.ref f3)=true)
  (m4:mg "led" = some (.ref f4))(G4:FnOk P w K mg base CX0 4 f4 fd4 ["board", "rows", "columns"] (Zb false Qr7))(b4:Binds K fd4 ["board", "rows", "columns"] [])(k4:PySem.W.keepIn K (.ref f4)=true)
  (m5:mg "is_board" = some (.ref f5))(G5:FnOk P w K mg base CX0 5 f5 fd5 ["thing"] (Zb false Qxe))(b5:Binds K fd5 ["thing"] [])(k5:PySem.W.keepIn K (.ref f5)=true)
  (m6:mg "_law_back" = some (.ref f6))(G6:FnOk P w K mg base CX0 1 f6 fd6 ["_law_order_here"] (Zb false Qhh))(b6:Binds K fd6 ["_law_order_here"] [])(k6:PySem.W.keepIn K (.ref f6)=true)
  (m7:mg "counts" = some (.ref f7))(G7:FnOk P w K mg base CX0 3 f7 fd7 ["board"] (Zb true Qht))(b7:Binds K fd7 ["board"] [])(k7:PySem.W.keepIn K (.ref f7)=true)
  (m8:mg "read" = some (.ref f8))(G8:FnOk P w K mg base (Rx.CXE P w) 3 f8 fd8 ["text"] (Zb false Qwx))(b8:Binds K fd8 ["text"] [])(k8:PySem.W.keepIn K (.ref f8)=true)
  (m9:mg "written" = some (.ref f9))(G9:FnOk P w K mg base CX0 2 f9 fd9 ["board"] (Zb false Qpz))(b9:Binds K fd9 ["board"] [])(k9:PySem.W.keepIn K (.ref f9)=true)
  (m10:mg "_law_take" = some (.ref f10))(G10:FnOk P w K mg base CX0 1 f10 fd10 ["_law_pot_here", "_law_far"] (Zb true QjS))(b10:Binds K fd10 ["_law_pot_here", "_law_far"] [])(k10:PySem.W.keepIn K (.ref f10)=true)
  (m11:mg "without_lines" = some (.ref f11))(G11:FnOk P w K mg base CX0 5 f11 fd11 ["board", "lines"] (Zb false Qwl))(b11:Binds K fd11 ["board", "lines"] [])(k11:PySem.W.keepIn K (.ref f11)=true) :
  FnOk P w K mg base CX0 6 f fd ["_law_pot_here", "_law_board_here"] (Zb false Qfa):=by
 refine okQ false F Ym (λargs R EX h=>?_) (λcdv A outer s H E hr=>?_)
 ·obtain⟨h,w,f,rfl,_⟩:=h;rfl
 ·have hU:=Room.u60 hr;have hI:=Room.i60 hr;refine⟨_,QX (Qf2 (qv 1) (Qbj rfl (JV 2 (JV 3 (JV 4 Qbk Ym.nd rfl (by first | exact Q1 rfl | exact QY rfl)) Ym.nd rfl (by first | exact Q1 rfl | exact QY rfl)) Ym.nd rfl (by first | exact Q1 rfl | exact QY rfl))))
   (QX (QtL 5 6 (Qak (Jp G1 (hr.mono (by decide)) (by rfl) m1 k1 b1 JG (QaY 0 (JW (qv 2) Q6))) (Qak (Jp G1 (hr.mono (by decide)) (by rfl) m1 k1 b1 JG (QaY 0 (JW (qv 3) Q6))) Jw)) Ym.nd)
   (QX (Qp0 7 8 9 (Qak (Jp G2 (hr.mono (by decide)) (by rfl) m2 k2 b2 JG (JW (qv 1) Q6)) (Qak (Jp G3 (hr.mono (by decide)) (by rfl) m3 k3 b3 JG (JW (qv 1) Q6)) (Qak (Jp G4 (hr.mono (by decide)) (by rfl) m4 k4 b4 JG (JW (qv 1) (JW (qv 5) (JW (qv 6) Q6)))) Jw))) Ym.nd)
   (QX (Qas (Qjw (QbN (Ya (YB (Jn (Jp G5 (hr.mono (by decide)) (by rfl) m5 k5 b5 JG (JW (qv 7) Q6))))) (QbN (Ya (YB (Jn (Jp G5 (hr.mono (by decide)) (by rfl) m5 k5 b5 JG (JW (qv 8) Q6))))) (QaX (Ya (YB (Jn (Jp G5 (hr.mono (by decide)) (by rfl) m5 k5 b5 JG (JW (qv 9) Q6))))))))) (Jc (Zp QfB)) Zj)
   (QX (Qas (Qjw (QbN (ZR YO (QbD hU) (Jn (Jp G2 (hr.mono (by decide)) (by rfl) m2 k2 b2 JG (JW (qv 7) Q6))) (qp 1) (J3 _)) (QbN (ZR YO (QbD hU) (Jn (Jp G3 (hr.mono (by decide)) (by rfl) m3 k3 b3 JG (JW (qv 8) Q6))) (qp 1) (J3 _)) (QaX (ZR YO (QbD hU) (Jn (Jp G4 (hr.mono (by decide)) (by rfl) m4 k4 b4 JG (JW (qv 7) (JW (qv 6) (JW (qv 5) Q6))))) (Jn (Jp G2 (hr.mono (by decide)) (by rfl) m2 k2 b2 JG (JW (qv 9) Q6))) (J3 _)))))) (Jc (Zp QfB)) Zj)
   (QX (Qas (Qjw (QbN (ZR YO (QbD hU) (Jn (Jp G4 (hr.mono (by decide)) (by rfl) m4 k4 b4 JG (JW (qv 9) (JW (Jp G6 (hr.mono (by decide)) (by rfl) m6 k6 b6 JG (JW (qv 5) Q6)) (JW (Jp G6 (hr.mono (by decide)) (by rfl) m6 k6 b6 JG (JW (qv 6) Q6)) Q6))))) (qp 1) (J3 _)) (QaX (ZR YO (QbD hU) (Jn (Jp G3 (hr.mono (by decide)) (by rfl) m3 k3 b3 JG (JW (qv 9) Q6))) (Jn (Jp G4 (hr.mono (by decide)) (by rfl) m4 k4 b4 JG (JW (qv 8) (JW (qv 5) (JW (qv 6) Q6))))) (J3 _))))) (Jc (Zp QfB)) Zj)
   (QX (Qas (Qjw (QbN (ZR YO (QbD hU) (Q7 (Z7 G7 (hr.mono (by decide)) (by rfl) m7 k7 b7 JG (JW (qv 7) Q6))) (Q7 (Z7 G7 (hr.mono (by decide)) (by rfl) m7 k7 b7 JG (JW (qv 1) Q6))) (J3 _)) (QaX (ZR YO (QbD hU) (Q7 (Z7 G7 (hr.mono (by decide)) (by rfl) m7 k7 b7 JG (JW (qv 9) Q6))) (Q7 (Z7 G7 (hr.mono (by decide)) (by rfl) m7 k7 b7 JG (JW (qv 1) Q6))) (J3 _))))) (Jc (Zp QfB)) Zj)
   (QX (Qas (Qjw (QbN (ZR YO (QbD hU) (Q7 (Qad QaM Qcd (Q7 (Zr ZZ QbJ (by rfl) T.len YF (QbO (Jn (QdU ZS Qae (qp 8) (Jn JO) (λ_ _=>rfl))) Jw))) (Q7 (Zr ZZ QbJ (by rfl) T.len YF (QbO (qp 4) Jw))))) (Q7 (Qad Qha QkW (qp 2) (qp 3))) (J3 _)) (QbN (ZR YO (QbD hU) (Jn (Jp G8 (hr.mono (by decide)) (by rfl) m8 k8 b8 Rx.QrC (JW (Jp G9 (hr.mono (by decide)) (by rfl) m9 k9 b9 JG (JW (qv 1) Q6)) Q6))) (qp 1) (J3 _)) (QaX (ZR YO (QbD hU) (Jn (Jp G8 (hr.mono (by decide)) (by rfl) m8 k8 b8 Rx.QrC (JW (Jp G9 (hr.mono (by decide)) (by rfl) m9 k9 b9 JG (JW (qv 8) Q6)) Q6))) (qp 8) (J3 _)))))) (Jc (Zp QfB)) Zj)
   (QX (Qaj 10 (Zn (YS Za Qan (by rfl) T.tuple Zv (QbO (Q7 (QaZ ["_law_row", "_law_pot_here"] [none,some 0] (Qkl (by rfl) T.range (Jn JO) (qp 2)) (λcl ex s3 H3 C=>⟨(ZT 0 QiX rfl (Q1 rfl) (QY rfl)),(QcD (ZR Qdp (Qhb hU) (Q7 (Z7 G10 (hr.mono (by decide)) (by rfl) m10 k10 b10 JG (QaY 1 (JW JO Q6)))) (Jn JO) (J3 _))),(qv 0)⟩))) Jw))) Ym.nd)
   (QX (Qaj 11 (Zn (YS Za Qan (by rfl) T.tuple Zv (QbO (Q7 (QaZ ["_law_column", "_law_pot_here"] [none,some 0] (Qkl (by rfl) T.range (Jn JO) (qp 3)) (λcl ex s3 H3 C=>⟨(ZT 0 QiW rfl (Q1 rfl) (QY rfl)),(QcD (ZR Qdp (Qhb hU) (Q7 (Z7 G10 (hr.mono (by decide)) (by rfl) m10 k10 b10 JG (QaY 1 (JW JO Q6)))) (Jn JO) (J3 _))),(qv 0)⟩))) Jw))) Ym.nd)
   (QX (Qaj 12 (Jp G11 (hr.mono (by decide)) (by rfl) m11 k11 b11 JG (JW (qv 1) (JW (Zn (QcE (Qak (qv 10) (Qak (qv 11) Jw)))) Q6))) Ym.nd)
   (QX (Qas (Qjw (QbN (Ya (YB (Jn (Jp G5 (hr.mono (by decide)) (by rfl) m5 k5 b5 JG (JW (qv 12) Q6))))) (QaX (ZR YO (QbD hU) (Jn (Jp G11 (hr.mono (by decide)) (by rfl) m11 k11 b11 JG (JW (qv 8) (JW (Zn (QcE (Qak (qv 10) (Qak (qv 11) Jw)))) Q6)))) (Jn (Jp G3 (hr.mono (by decide)) (by rfl) m3 k3 b3 JG (JW (qv 12) Q6))) (J3 _))))) (Jc (Zp QfB)) Zj)
   (Jc (Zp (Qg3 (Q7 (Qf5 Qdp (Qhb hU) (Jn (Jp G2 (hr.mono (by decide)) (by rfl) m2 k2 b2 JG (JW (qv 12) Q6))) (Jn (Jp G11 (hr.mono (by decide)) (by rfl) m11 k11 b11 JG (JW (qv 7) (JW (Zn (QcE (Qak (qv 11) (Qak (qv 10) Jw)))) Q6)))) (J3 _))) (Qg2 (Zn (Qf5 Qdp (Qhb hU) (Jn (Jp G9 (hr.mono (by decide)) (by rfl) m9 k9 b9 JG (JW (qv 12) Q6))) (Jn (Jp G9 (hr.mono (by decide)) (by rfl) m9 k9 b9 JG (JW (Jp G8 (hr.mono (by decide)) (by rfl) m8 k8 b8 Rx.QrC (JW (Jp G9 (hr.mono (by decide)) (by rfl) m9 k9 b9 JG (JW (qv 12) Q6)) Q6)) Q6))) (J3 _)))))))))))))))))),λargs R EX h=>?_⟩
  obtain⟨h,w,f,rfl,h1,h6,w1,w6,hR⟩:=h;refine⟨rfl,h,rfl,h6,λrs hr=>⟨w,rfl,w6,λms hm=>?_⟩⟩;refine⟨h,w,f,rfl,h6,w6,h,w,f,rfl,h6,w6,h,w,f,rs,ms,rfl,h6,w6,hr,hm,?_⟩;refine⟨w,h,tF f,rfl,w1,w6,h1,h6,h,w,Qdq f,rfl,h1,h6,w1,w6,h,w,QfC f rs ms,rfl,h1,h6,w1,w6,?_⟩;refine⟨w,h,tF f,rfl,w6,h6,⟨Qa6 _ _ _,Qa6 _ _ _,.inl (YT _ _ _)⟩,ifF (Qgf rfl) ?_⟩;refine⟨h,w,Qdq f,rfl,h6,w6,⟨Qa6 _ _ _,Qa6 _ _ _,.inl (YT _ _ _)⟩,ifF (Qgf (by rw[Qyv])) ?_⟩;refine⟨w,h,tF f,ms,rs,rfl,w6,h6,hm,hr,h,w,QfC f rs ms,rfl,h6,w6,⟨Qa6 _ _ _,Qa6 _ _ _,.inl (YT _ _ _)⟩,ifF (Qgf rfl) ?_⟩;refine⟨h,rs,rfl,h6,hr,w,ms,rfl,w6,hm,h,w,QfC f rs ms,QbF rs,QbF ms,rfl,h6,w6,Qit hr,Qit hm,⟨Qa6 _ _ _,Qa6 _ _ _,.inl (YT _ _ _)⟩,ifF (Qgf (QnE hr hm)) ?_⟩;refine⟨h,w,QfC f rs ms,rfl,h6,w6,h,w,Qdq f,rs,ms,rfl,h6,w6,hr,hm,⟨Qa6 _ _ _,Qa6 _ _ _,.inl (YT _ _ _)⟩,ifF (Qgf rfl) ?_⟩;refine⟨w,h,_,rfl,w6,h6,λp hp=>(YD hp).2.2,h,w,_,rfl,h6,w6,λp hp=>(YD hp).2.2,⟨Qib _ _ _,Qib _ _ _,.inl (Qo8 _ _ _)⟩,ifF (QoR (QnZ f h6 w6) rfl) ?_⟩;refine⟨h,w,_,rfl,h6,w6,λp hp=>(YD hp).2.2,h,w,_,rfl,h6,w6,λp hp=>(YD hp).2.2,⟨Qib _ _ _,Qib _ _ _,.inl (Qo8 _ _ _)⟩,ifF (QoR (Qsu f h6 w6 hr hm) rfl) ?_⟩;refine⟨_,Zd (j:=2) rfl,.inl (.inl ⟨by omega,by omega⟩),ifF ?_ ?_⟩
  ·show(!decide ((((cellsF h w (Qdq f)).map pairD).length:Int)+(((cellsF h w f).map pairD).length:Int)=(h:Int)*(w:Int)))=false;have:=QhY w f h;rw[Qe,Qe,<- Int.natCast_add,this,Int.natCast_mul,decide_eq_true rfl];rfl
  refine⟨h,w,f,rfl,h1,h6,w1,w6,h,w,f,rfl,h1,h6,w1,w6,⟨Qa6 _ _ _,Qa6 _ _ _,.inl (YT _ _ _)⟩,ifF (Qgf rfl) ?_⟩;refine⟨h,w,Qdq f,rfl,h1,h6,w1,w6,h,w,Qdq f,rfl,h1,h6,w1,w6,⟨Qa6 _ _ _,Qa6 _ _ _,.inl (YT _ _ _)⟩,ifF (Qgf rfl) ?_⟩;refine⟨⟨by decide,by decide,by omega,by omega⟩,Qpd (λd=>d) (λd hd k1 k2 q1 q2=>?_) λp=>?_⟩
  ·refine⟨_,rfl,by decide,by decide,λr r0 r1=>ifC (λz=>q2) λz=>q1⟩
  rw[Qo1 h p];refine⟨⟨by decide,by decide,by omega,by omega⟩,Qpd (λd=>d) (λd hd k1 k2 q1 q2=>?_) λq=>?_⟩
  ·refine⟨_,rfl,by decide,by decide,λr r0 r1=>ifC (λz=>q2) λz=>q1⟩
  rw[Qo1 w q];have a1:=QoZ h p;have a2:=Qo0 (h:=h) (p:=p);have a3:=Qhq (p:=p) h1;have a4:=QoN (p:=p) h1;have a5:=Qe7 h (fewN h p);have b1:=QoZ w q;have b2:=Qo0 (h:=w) (p:=q);have b3:=Qhq (p:=q) w1;have b4:=QoN (p:=q) w1;have b5:=Qe7 w (fewN w q);generalize fewN h p=A at *;generalize fewN w q=B at *;refine⟨h,w,f,A,B,rfl,h6,w6,a1,a2,b1,b2,a3,b3,?_⟩;have c5:(oth h A).length<=6:=by omega
  have d5:(oth w B).length<=6:=by omega
  refine⟨_,_,QfC f (oth h A) (oth w B),rfl,a4,c5,b4,d5,?_⟩;refine⟨h,w,Qdq f,A,B,rfl,h6,w6,a1,a2,b1,b2,a3,b3,_,_,QfC f (oth h A) (oth w B),rfl,c5,d5,⟨Qa6 _ _ _,Qa6 _ _ _,.inl (YT _ _ _)⟩,ifF (Qgf rfl) ?_⟩;refine⟨_,_,QfC f (oth h A) (oth w B),rfl,c5,d5,w,h,tF f,B,A,rfl,w6,h6,b1,b2,a1,a2,b3,a3,⟨Qa6 _ _ _,Qa6 _ _ _,.inl (YT _ _ _)⟩,?_⟩;refine ifT (Qxm rfl) ?_
  refine⟨_,_,QfC f (oth h A) (oth w B),rfl,a4,c5,b4,d5,_,_,QfC f (oth h A) (oth w B),rfl,a4,c5,b4,d5,_,_,QfC f (oth h A) (oth w B),rfl,a4,c5,b4,d5,_,_,QfC f (oth h A) (oth w B),rfl,a4,c5,b4,d5,?_⟩;show R (.bool (decide (Qbf _ _ _=Qbf _ _ _)));rw[QnR];exact hR
end
section
variable{P:Qz}{w:Jf}{K:PySem.W.Frag}{mg:Str->Option Value}{base:JR}
theorem ZY:Jq ["_law_pot_here", "_law_most", "_law_high", "_law_wide", "_law_way", "_law_thick", "_law_cells", "_law_row", "_law_column", "_law_drawn", "_law_some"] ["_law_pot_here", "_law_most"] (Qt Qet):=⟨rfl,rfl,rfl,by decide +kernel,rfl,by decide +kernel,by decide +kernel⟩
theorem QkR{f f1  : Addr}{fd fd1:QN}(F:Fun K "_law_board" "_law_board" Qet f fd)(T:GlbA mg)
  (m1:mg "_law_take" = some (.ref f1))(G1:FnOk P w K mg base CX0 1 f1 fd1 ["_law_pot_here", "_law_far"] (Zb true QjS))(b1:Binds K fd1 ["_law_pot_here", "_law_far"] [])(k1:PySem.W.keepIn K (.ref f1)=true) :
  FnOk P w K mg base CX0 2 f fd ["_law_pot_here", "_law_most"] (Zb false Qhg):=by
 refine okQ false F ZY (λargs R EX h=>?_) (λcdv A outer s H E hr=>?_)
 ·obtain⟨m,rfl,_⟩:=h;rfl
 ·have hU:=Room.u60 hr;have hI:=Room.i60 hr;refine⟨_,QX (Qaj 2 (Zn (Qad QaM Qcd (Jn JO) (Q7 (Z7 G1 (hr.mono (by decide)) (by rfl) m1 k1 b1 JG (QaY 0 (JW (qv 1) Q6)))))) ZY.nd)
   (QX (Qaj 3 (Zn (Qad QaM Qcd (Jn JO) (Q7 (Z7 G1 (hr.mono (by decide)) (by rfl) m1 k1 b1 JG (QaY 0 (JW (qv 1) Q6)))))) ZY.nd)
   (QX (Qaj 4 (Zn (Z7 G1 (hr.mono (by decide)) (by rfl) m1 k1 b1 JG (QaY 0 (JW JO Q6)))) ZY.nd)
   (QX (Qaj 5 (Zn (Qad QaM Qcd (Jn JO) (Q7 (Z7 G1 (hr.mono (by decide)) (by rfl) m1 k1 b1 JG (QaY 0 (JW JO Q6)))))) ZY.nd)
   (QX (Qdk 6 (Qf4 Jw) ZY.nd)
   (QX (Qek Zl rfl (QaK (by rfl) T.range (qp 2)) (ZT 7 ZY.nd rfl (by first | exact Q1 rfl | exact QY rfl))
    (Jc (Qek Zl rfl (QaK (by rfl) T.range (qp 3)) (ZT 8 ZY.nd rfl (by first | exact Q1 rfl | exact QY rfl))
    (QX (Qaj 9 (Zn (Qf5 Qnk QkX (Q7 (Z7 G1 (hr.mono (by decide)) (by rfl) m1 k1 b1 JG (QaY 0 (JW JO Q6)))) (qp 5) (J3 _))) ZY.nd)
   (QX (Qaj 10 (Zn (Qad QaM Qcd (Q7 (Qad Qha QkW (Q7 (Qf4 (Qak (qv 9) Jw))) (Jn JO))) (Q7 (Qf4 (Qak QfB (Qak QfB (Qak (Zn (Qf5 Qnk QkX (qp 8) (qp 7) (J3 _))) (Qak (Zn (Qf5 Qdp (Qhb hU) (Q7 (Qad Qgd Qnt (Q7 (Qad QaM Qcd (qp 7) (qp 8))) (Jn JO))) (Jn JO) (J3 _))) (Qak (Zn (Qf5 QrJ QkX (qp 7) (qp 8) (J3 _))) Jw))))))))) ZY.nd)
   (Jc (Qas (Qh1 (Jn (QdU ZS Qae (qp 10) (qp 4) (λ_ _=>rfl)))) (Jc (QtN 6 (Zn (QcE (Qak (qv 7) (Qak (qv 8) Jw)))))) Zj)))))))
   (Jc (Y2 (QcE (Qak (qv 2) (Qak (qv 3) (Qak (Zn (YS Za Qan (by rfl) T.tuple Zv (QbO (qp 6) Jw))) Jw))))))))))),λargs R EX h=>?_⟩
  obtain⟨m,rfl,m1,m6,hR⟩:=h;refine⟨_,rfl,by omega,by omega,λrh rh0 rh1=>⟨_,rfl,by omega,by omega,λrw0 rw1 rw2=>?_⟩⟩;refine⟨_,rfl,by decide,by decide,λway way0 way1=>⟨_,rfl,by decide,by decide,λth th0 th1=>?_⟩⟩;obtain⟨h,hh⟩:∃h:Nat,(h:Int)=1+rh:=⟨(1+rh).toNat,by omega⟩
  obtain⟨w,hw⟩:∃w:Nat,(w:Int)=1+rw0:=⟨(1+rw0).toNat,by omega⟩
  rw[<- hh,<- hw];refine⟨⟨by omega,by omega⟩,Qho (λi δ=>∃f ds x1 x2 x3 x4,δ=[.pot,.v (.int m),.v (.int h),.v (.int w),.v (.int way),.v (.int (1+th)),.own ds,x1,x2,x3,x4]/\ds=(cellsF i w f).map pairD) ⟨λ_ _=>false,_,_,_,_,_,rfl,rfl⟩ ?_ ?_⟩
  ·rintro i δ hi ⟨f,ds,x1,x2,x3,x4,rfl,rfl⟩;refine⟨⟨by omega,by omega⟩,Qho (λj δ=>∃f ds x2 x3 x4,δ=[.pot,.v (.int m),.v (.int h),.v (.int w),.v (.int way),.v (.int (1+th)),.own ds,.v (.int (0+(i:Int))),x2,x3,x4]/\ds=(cellsF i w f++QbC i j f).map pairD) ⟨f,_,_,_,_,rfl,by rw[show QbC i 0 f=[] from rfl,ZV]⟩ ?_ ?_⟩
   ·rintro j δ hj ⟨f,ds,x2,x3,x4,rfl,rfl⟩;refine⟨_,rfl,by decide,by decide,λdr dr0 dr1=>?_⟩;refine⟨⟨by decide,by decide,by show 1*5<=_;decide⟩,by show(0:Int)<2;decide,by show 5+5<=_;decide,?_⟩;refine Qw9 way0 (by show way<10;exact way1) λd hd=>?_
    obtain⟨b,rfl⟩:∃b,d=.bool b:=Qau (p:=λd=>∃b,d=Qa8 b) ⟨_,rfl⟩ (Qau ⟨_,rfl⟩ (Qau ⟨_,rfl⟩ (Qau ⟨_,rfl⟩ (Qau ⟨_,rfl⟩ (Qau ⟨_,rfl⟩ (Qau ⟨_,rfl⟩ (Qau ⟨_,rfl⟩ (Qau ⟨_,rfl⟩ (Qau ⟨_,rfl⟩ Qvm))))))))) d hd
    refine⟨trivial,?_⟩;have ec:cellsF i w (QpC f i j b)++QbC i (j+1) (QpC f i j b)=cellsF i w f++QbC i j f++(if b=true then[((i:Int),(j:Int))] else[]):=by
     rw[Qjd (Qh _),Qkc,QmE (Qh _),<- QdQ,show QpC f i j b i j=b from if_pos ⟨rfl,rfl⟩]
    cases b with
    |false=>
     refine⟨QpC f i j false,_,_,_,_,rfl,?_⟩;rw[ec,if_neg (by decide),ZV]
    |true=>
     have l1:=QaC w f i;have l2:=QhW i j f;have l3:i*w<=6*6:=Yl (by omega) (by omega);refine⟨by rw[Qe,QM];omega,QpC f i j true,_,_,_,_,rfl,?_⟩;rw[ec,if_pos rfl,Zg (l₁:=cellsF i w f++QbC i j f),show(0:Int)+(i:Int)=(i:Int) by omega,show(0:Int)+(j:Int)=(j:Int) by omega];rfl
   ·rintro δ ⟨f,ds,x2,x3,x4,rfl,rfl⟩;exact⟨f,_,_,_,_,_,rfl,by rw[ZN,QD]⟩
  ·rintro δ ⟨f,ds,x1,x2,x3,x4,rfl,rfl⟩;rw[QD];exact hR h w f (by omega) (by omega) (by omega) (by omega)
theorem Qj6:Jq ["_law_script", "_law_k", "_law_pot_here"] ["_law_script"] (Qt sLaw):=⟨rfl,rfl,rfl,by decide +kernel,rfl,by decide +kernel,by decide +kernel⟩
theorem Quq{f f1 f2 f3 f4  : Addr}{fd fd1 fd2 fd3 fd4:QN}(F:Fun K "law" "law" sLaw f fd)(T:GlbA mg)
  (m1:mg "_law_cell_at" = some (.ref f1))(G1:FnOk P w K mg base CX0 1 f1 fd1 ["_law_script", "_law_k"] (Qb5 K))(b1:Binds K fd1 ["_law_script", "_law_k"] [])(k1:PySem.W.keepIn K (.ref f1)=true)
  (m2:mg "_law_pot" = some (.ref f2))(G2:FnOk P w K mg base CX0 1 f2 fd2 ["_law_cell"] (Zb true QwH))(b2:Binds K fd2 ["_law_cell"] [])(k2:PySem.W.keepIn K (.ref f2)=true)
  (m3:mg "_law_board" = some (.ref f3))(G3:FnOk P w K mg base CX0 2 f3 fd3 ["_law_pot_here", "_law_most"] (Zb false Qhg))(b3:Binds K fd3 ["_law_pot_here", "_law_most"] [])(k3:PySem.W.keepIn K (.ref f3)=true)
  (m4:mg "_law_right" = some (.ref f4))(G4:FnOk P w K mg base CX0 6 f4 fd4 ["_law_pot_here", "_law_board_here"] (Zb false Qfa))(b4:Binds K fd4 ["_law_pot_here", "_law_board_here"] [])(k4:PySem.W.keepIn K (.ref f4)=true) :
  FnOk P w K mg base CX0 7 f fd ["_law_script"] (Qd9 K):=by
 refine Qyt F Qj6 (λcdv A outer s H E hr=>?_);have hU:=Room.u60 hr;have hI:=Room.i60 hr;refine⟨_,QX (Qek Zl rfl (QaK (by rfl) T.range (Q7 (Zr (QlK rfl) Qsy (by rfl) T.max Qvg (QbO (Jn JO) (QbO (Q7 (Zr (Qgv rfl) QlI (by rfl) T.min Qpf (QbO (Q7 (QtP 0 (by rfl) T.len)) (QbO (Jn JO) Jw)))) Jw))))) (ZT 1 Qj6.nd rfl (by first | exact Q1 rfl | exact QY rfl))
    (QX (QpZ 2 (Z7 G2 (hr.mono (by decide)) (by rfl) m2 k2 b2 JG (JW (Zn (QtQ 0 G1 (hr.mono (by decide)) (by rfl) m1 k1 b1 (qp 1))) Q6)) Qj6.nd)
   (Jc (Qas (Ya (YB (Jn (Jp G4 (hr.mono (by decide)) (by rfl) m4 k4 b4 JG (QaY 2 (JW (Jp G3 (hr.mono (by decide)) (by rfl) m3 k3 b3 JG (QaY 2 (JW JO Q6))) Q6)))))) (Jc (Zp QfB)) Zj))))
   (Jc (Zp QfB)),?_⟩
 intro n0 n63;refine⟨⟨by split<;>split<;>omega,by split<;>split<;>omega⟩,Qho (λi δ=>∃x1 x2,δ=[.scr,x1,x2]) ⟨_,_,rfl⟩ ?_ ?_⟩
 ·rintro i δ hi ⟨x1,x2,rfl⟩;refine⟨by omega,λc=>⟨c,rfl,λn1=>?_⟩⟩;refine⟨6,rfl,by decide,by decide,λh w f h1 h6 w1 w6=>?_⟩;exact⟨h,w,f,rfl,h1,by omega,w1,by omega,_,_,rfl⟩
 ·rintro δ ⟨x1,x2,rfl⟩;rfl
end
end Rk
def PySem.W.Fast.tw15485049182435212765:Nat:=0
def PySem.W.Fast.tw3114644357281916125:Nat:=0
def PySem.W.Fast.tw2567569609193128952:Nat:=0
def PySem.W.Fast.tw2342107073264286144:Nat:=0
def PySem.W.Fast.tw13769012309827722996:Nat:=0
def PySem.W.Fast.tw1598672201573494836:Nat:=0
def PySem.W.Fast.tw635843077177165643:Nat:=0
def PySem.W.Fast.tw10848463036192693890:Nat:=0
def PySem.W.Fast.tw6256573200100095813:Nat:=0
def PySem.W.Fast.tw13086587930219452648:Nat:=0
def PySem.W.Fast.tw12199097962687969710:Nat:=0
def PySem.W.Fast.tw16331679787989494910:Nat:=0
def PySem.W.Fast.tw17798866626337292252:Nat:=0
def PySem.W.Fast.tw35099011717588563:Nat:=0
def PySem.W.Fast.tw18066449071302471216:Nat:=0
def PySem.W.Fast.tw11174490003590431963:Nat:=0
def PySem.W.Fast.tw6652016027108412668:Nat:=0
def PySem.W.Fast.tw609875223428297970:Nat:=0
def PySem.W.Fast.tw8653671626773801896:Nat:=0
def PySem.W.Fast.tw8500251530682289925:Nat:=0
def PySem.W.Fast.tw15564136228708362114:Nat:=0
def PySem.W.Fast.tw18056654014591638921:Nat:=0
def PySem.W.Fast.tw4271583943396078843:Nat:=0
def PySem.W.Fast.tw11753721500992601970:Nat:=0
def PySem.W.Fast.tw6708429703698623209:Nat:=0
def PySem.W.Fast.tw10630636547003185230:Nat:=0
def PySem.W.Fast.tw3400939018255260406:Nat:=0
def PySem.W.Fast.tw12687108427954814234:Nat:=0
def PySem.W.Fast.tw12087828217114023468:Nat:=0
def PySem.W.Fast.tw9250318351399354881:Nat:=0
def PySem.W.Fast.tw8768683675023824494:Nat:=0
def PySem.W.Fast.tw15892906759154902705:Nat:=0
def PySem.W.Fast.tw15681731118407518170:Nat:=0
def PySem.W.Fast.tw1026342532735366469:Nat:=0
def PySem.W.Fast.tw7356006689836950349:Nat:=0
def PySem.W.Fast.tw12598865670688440991:Nat:=0
def PySem.W.Fast.tw2124291058610705478:Nat:=0
def PySem.W.Fast.tw6719940228301404731:Nat:=0
def PySem.W.Fast.tw9665479497290815395:Nat:=0
def PySem.W.Fast.tw9000326677374778469:Nat:=0
def PySem.W.Fast.tw9370721967611137551:Nat:=0
def PySem.W.Fast.tw4993704501992731460:Nat:=0
def PySem.W.Fast.tw12263519402322306492:Nat:=0
def PySem.W.Fast.tw16338856061445289273:Nat:=0
def PySem.W.Fast.tw7518618610837136197:Nat:=0
def PySem.W.Fast.tw2892798321587201655:Nat:=0
def PySem.W.Fast.tw72473615445161627:Nat:=0
def PySem.W.Fast.tw8190113724723616771:Nat:=0
def PySem.W.Fast.tw3742363931368864444:Nat:=0
def PySem.W.Fast.tw15027483223959466041:Nat:=0
def PySem.W.Fast.tw2046422097512645304:Nat:=0
def PySem.W.Fast.tw7338234632190379107:Nat:=0
def PySem.W.Fast.tw14420835977563526573:Nat:=0
def PySem.W.Fast.tw2408033799357726059:Nat:=0
def PySem.W.Fast.tw3634925511771694924:Nat:=0
def PySem.W.Fast.tw8209768661603112412:Nat:=0
def PySem.W.Fast.tw5893255818673962312:Nat:=0
def PySem.W.Fast.tw8004666366473629701:Nat:=0
def PySem.W.Fast.tw1109989779361102112:Nat:=0
def PySem.W.Fast.tw4856022304795741769:Nat:=0
def PySem.W.Fast.tw12099698555176555215:Nat:=0
def PySem.W.Fast.tw16693830919285041846:Nat:=0
def PySem.W.Fast.tw14205963174854663766:Nat:=0
def PySem.W.Fast.tw14721628533687010869:Nat:=0
def PySem.W.Fast.tw9372093561732811449:Nat:=0
def PySem.W.Fast.tw17896539678930510754:Nat:=0
def PySem.W.Fast.tw7316424468518282009:Nat:=0
def PySem.W.Fast.tw3294485478811977402:Nat:=0
def PySem.W.Fast.tw13503204573489134038:Nat:=0
def PySem.W.Fast.tw9631233476385740480:Nat:=0
def PySem.W.Fast.tw13896509446831279718:Nat:=0
def PySem.W.Fast.tw3377091568532444929:Nat:=0
def PySem.W.Fast.tw17924971288532530888:Nat:=0
def PySem.W.Fast.tw2894338218963193284:Nat:=0
def PySem.W.Fast.tw11610809078725380251:Nat:=0
def PySem.W.Fast.tw16934178361392269361:Nat:=0
def PySem.W.Fast.tw8399365090177281384:Nat:=0
def PySem.W.Fast.tw7224538851068599044:Nat:=0
def PySem.W.Fast.tw2131665157211956442:Nat:=0
def PySem.W.Fast.tw257517639833152311:Nat:=0
def PySem.W.Fast.tw5453205945701089165:Nat:=0
def PySem.W.Fast.tw8154824724976129842:Nat:=0
def PySem.W.Fast.tw14563795123993236991:Nat:=0
def PySem.W.Fast.tw11934899477351035338:Nat:=0
def PySem.W.Fast.tw4703869661081400646:Nat:=0
def PySem.W.Fast.tw1973440004415699271:Nat:=0
def PySem.W.Fast.tw7874143853019285594:Nat:=0
def PySem.W.Fast.tw16157228092307613792:Nat:=0
def PySem.W.Fast.tw2365705740055392177:Nat:=0
def PySem.W.Fast.tw11143646156913230049:Nat:=0
def PySem.W.Fast.tw15923765140568987715:Nat:=0
def PySem.W.Fast.tw9156584163946943477:Nat:=0
def PySem.W.Fast.tw13028366229274246349:Nat:=0
def PySem.W.Fast.tw704250267666139848:Nat:=0
def PySem.W.Fast.tw13467408745507953494:Nat:=0
def PySem.W.Fast.tw3650188322000027657:Nat:=0
def PySem.W.Fast.tw2243227578595998537:Nat:=0
def PySem.W.Fast.tw1879209906881663638:Nat:=0
def PySem.W.Fast.tw9227310945695518940:Nat:=0
def PySem.W.Fast.tw3645793588995150139:Nat:=0
def PySem.W.Fast.tw1618846707669472372:Nat:=0
def PySem.W.Fast.tw8167734493554622637:Nat:=0
def PySem.W.Fast.tw3716464102407389572:Nat:=0
def PySem.W.Fast.tw7336071454511192393:Nat:=0
def PySem.W.Fast.tw295990887127100652:Nat:=0
def PySem.W.Fast.tw18051001151781371288:Nat:=0
def PySem.W.Fast.tw15959657098041281448:Nat:=0
def PySem.W.Fast.tw97750619280530438:Nat:=0
def PySem.W.Fast.tw14248531335625793948:Nat:=0
def PySem.W.Fast.tw4205466402389167175:Nat:=0
def PySem.W.Fast.tw6892882284027716339:Nat:=0
def PySem.W.Fast.tw13612888661674300222:Nat:=0
def PySem.W.Fast.tw952062649240297128:Nat:=0
def PySem.W.Fast.tw18274219082850817000:Nat:=0
def PySem.W.Fast.tw1655141587371633904:Nat:=0
def PySem.W.Fast.tw10763362447507361634:Nat:=0
def PySem.W.Fast.tw1930777348545359080:Nat:=0
def PySem.W.Fast.tw10425537336600449209:Nat:=0
def PySem.W.Fast.tw16251396163784859419:Nat:=0
def PySem.W.Fast.tw9577575196680560002:Nat:=0
def PySem.W.Fast.tw18236676330048808193:Nat:=0
def PySem.W.Fast.tw7512364085487106777:Nat:=0
def PySem.W.Fast.tw17217032179676099753:Nat:=0
def PySem.W.Fast.tw12462354988241343673:Nat:=0
def PySem.W.Fast.tw11862995202719635868:Nat:=0
def PySem.W.Fast.tw7733681308332568870:Nat:=0
def PySem.W.Fast.tw16656434830869627149:Nat:=0
def PySem.W.Fast.tw12099349548841677864:Nat:=0
def PySem.W.Fast.tw4109866327145305838:Nat:=0
def PySem.W.Fast.tw1582572560646507273:Nat:=0
def PySem.W.Fast.tw11172277759924206018:Nat:=0
def PySem.W.Fast.tw2176097024773445722:Nat:=0
def PySem.W.Fast.tw3957080152256611067:Nat:=0
def PySem.W.Fast.tw13781432249781164512:Nat:=0
def PySem.W.Fast.tw17363887594889365802:Nat:=0
def PySem.W.Fast.tw9609128187784883238:Nat:=0
def PySem.W.Fast.tw1791937351632063401:Nat:=0
def PySem.W.Fast.tw6257936028539026270:Nat:=0
def PySem.W.Fast.tw14696580605101814541:Nat:=0
def PySem.W.Fast.tw302041641302181137:Nat:=0
def PySem.W.Fast.tw10477075205644949600:Nat:=0
def PySem.W.Fast.tw1973548429897560499:Nat:=0
def PySem.W.Fast.tw8440836686235985692:Nat:=0
def PySem.W.Fast.tw14693266507644488246:Nat:=0
def PySem.W.Fast.tw17876989247490755578:Nat:=0
def PySem.W.Fast.tw17807403927195850192:Nat:=0
def PySem.W.Fast.tw14463492919071551337:Nat:=0
def PySem.W.Fast.tw5769890442886959526:Nat:=0
def PySem.W.Fast.tw8891961955806971898:Nat:=0
def PySem.W.Fast.tw5312013699548805843:Nat:=0
def PySem.W.Fast.tw598181338156598762:Nat:=0
def PySem.W.Fast.tw17930623603273865665:Nat:=0
def PySem.W.Fast.tw15617770147560205725:Nat:=0
def PySem.W.Fast.tw3459841394370638579:Nat:=0
def PySem.W.Fast.tw9521105862852561843:Nat:=0
def PySem.W.Fast.tw17535314612343633168:Nat:=0
def PySem.W.Fast.tw14348930997457458629:Nat:=0
def PySem.W.Fast.tw2667779312297680900:Nat:=0
def PySem.W.Fast.tw3052015230023277389:Nat:=0
def PySem.W.Fast.tw259379960851972318:Nat:=0
def PySem.W.Fast.tw4927173399266053993:Nat:=0
namespace Rk
open L2
theorem Qvl{l:PySem.W.OpenLaw}{w:Jf}{K:PySem.W.Frag}{h:JR}{mg:Str->Option Value}{fa f1 f2 f3 f4 f5 f6 f7 f8 f9 f10 f11 f12 f13 f14 f15 f16 f17 f18 f19 f20 f21 f22 f23 f24 f25 f26 f27 f28 f29 f30 f31 f32:Addr}(X:K.In h)(G:h.Ns mainGlobals mg)(hfa:mg "law" = some (.ref fa))
  {od1 an1 od2 an2 od3 an3 od4 an4 od5 an5 od6 an6 od7 an7 od8 an8 od9 an9 od10 an10 od11 an11 od12 an12 od13 an13 od14 an14 od15 an15 od16 an16 od17 an17 od18 an18 od19 an19 od20 an20 od21 an21 od22 an22 od23 an23 od24 an24 od25 an25 od26 an26 od27 an27 od28 an28 od29 an29 od30 an30 od31 an31 od32 an32:Option Addr} {sl1 sl2 sl3 sl4 sl5 sl6 sl7 sl8 sl9 sl10 sl11 sl12 sl13 sl14 sl15 sl16 sl17 sl18 sl19 sl20 sl21 sl22 sl23 sl24 sl25 sl26 sl27 sl28 sl29 sl30 sl31 sl32:Array (Option Value)} {oc1 kV1 dc1 pm1 cd1 ct1 oc2 kV2 dc2 pm2 cd2 ct2 oc3 kV3 dc3 pm3 cd3 ct3 oc4 kV4 dc4 pm4 cd4 ct4 oc5 kV5 dc5 pm5 cd5 ct5 oc6 kV6 dc6 pm6 cd6 ct6 oc7 kV7 dc7 pm7 cd7 ct7 oc8 kV8 dc8 pm8 cd8 ct8 oc9 kV9 dc9 pm9 cd9 ct9 oc10 kV10 dc10 pm10 cd10 ct10 oc11 kV11 dc11 pm11 cd11 ct11 oc12 kV12 dc12 pm12 cd12 ct12 oc13 kV13 dc13 pm13 cd13 ct13 oc14 kV14 dc14 pm14 cd14 ct14 oc15 kV15 dc15 pm15 cd15 ct15 oc16 kV16 dc16 pm16 cd16 ct16 oc17 kV17 dc17 pm17 cd17 ct17 oc18 kV18 dc18 pm18 cd18 ct18 oc19 kV19 dc19 pm19 cd19 ct19 oc20 kV20 dc20 pm20 cd20 ct20 oc21 kV21 dc21 pm21 cd21 ct21 oc22 kV22 dc22 pm22 cd22 ct22 oc23 kV23 dc23 pm23 cd23 ct23 oc24 kV24 dc24 pm24 cd24 ct24 oc25 kV25 dc25 pm25 cd25 ct25 oc26 kV26 dc26 pm26 cd26 ct26 oc27 kV27 dc27 pm27 cd27 ct27 oc28 kV28 dc28 pm28 cd28 ct28 oc29 kV29 dc29 pm29 cd29 ct29 oc30 kV30 dc30 pm30 cd30 ct30 oc31 kV31 dc31 pm31 cd31 ct31 oc32 kV32 dc32 pm32 cd32 ct32:Value}
  (a1:PySem.W.nsIn K mainGlobals "is_whole" = some (some (.ref f1))) (l1:K.lookup f1=some ⟨oc1,od1,.func (PySem.W.fnOf "is_whole" "is_whole" (Jx Qeb) (Jj Qeb) (Qt Qeb) .none kV1 dc1 pm1 an1 cd1 ct1),sl1⟩) (c1:PySem.W.codeIn K cd1 "is_whole" = true) (k1:PySem.W.keepIn K (.ref f1)=true)
  (a2:PySem.W.nsIn K mainGlobals "is_whole_within" = some (some (.ref f2)))(l2:K.lookup f2=some ⟨oc2,od2,.func (PySem.W.fnOf "is_whole_within" "is_whole_within" (Jx Qcz) (Jj Qcz) (Qt Qcz) .none kV2 dc2 pm2 an2 cd2 ct2),sl2⟩)(c2:PySem.W.codeIn K cd2 "is_whole_within" = true)(k2:PySem.W.keepIn K (.ref f2)=true)
  (a3:PySem.W.nsIn K mainGlobals "is_rising" = some (some (.ref f3)))(l3:K.lookup f3=some ⟨oc3,od3,.func (PySem.W.fnOf "is_rising" "is_rising" (Jx QcA) (Jj QcA) (Qt QcA) .none kV3 dc3 pm3 an3 cd3 ct3),sl3⟩)(c3:PySem.W.codeIn K cd3 "is_rising" = true)(k3:PySem.W.keepIn K (.ref f3)=true)
  (a4:PySem.W.nsIn K mainGlobals "is_board" = some (some (.ref f4)))(l4:K.lookup f4=some ⟨oc4,od4,.func (PySem.W.fnOf "is_board" "is_board" (Jx Qeg) (Jj Qeg) (Qt Qeg) .none kV4 dc4 pm4 an4 cd4 ct4),sl4⟩)(c4:PySem.W.codeIn K cd4 "is_board" = true)(k4:PySem.W.keepIn K (.ref f4)=true)
  (a5:PySem.W.nsIn K mainGlobals "is_cells" = some (some (.ref f5)))(l5:K.lookup f5=some ⟨oc5,od5,.func (PySem.W.fnOf "is_cells" "is_cells" (Jx Qef) (Jj Qef) (Qt Qef) .none kV5 dc5 pm5 an5 cd5 ct5),sl5⟩)(c5:PySem.W.codeIn K cd5 "is_cells" = true)(k5:PySem.W.keepIn K (.ref f5)=true)
  (a6:PySem.W.nsIn K mainGlobals "is_place" = some (some (.ref f6)))(l6:K.lookup f6=some ⟨oc6,od6,.func (PySem.W.fnOf "is_place" "is_place" (Jx Qed) (Jj Qed) (Qt Qed) .none kV6 dc6 pm6 an6 cd6 ct6),sl6⟩)(c6:PySem.W.codeIn K cd6 "is_place" = true)(k6:PySem.W.keepIn K (.ref f6)=true)
  (a7:PySem.W.nsIn K mainGlobals "turned" = some (some (.ref f7)))(l7:K.lookup f7=some ⟨oc7,od7,.func (PySem.W.fnOf "turned" "turned" (Jx QiM) (Jj QiM) (Qt QiM) .none kV7 dc7 pm7 an7 cd7 ct7),sl7⟩)(c7:PySem.W.codeIn K cd7 "turned" = true)(k7:PySem.W.keepIn K (.ref f7)=true)
  (a8:PySem.W.nsIn K mainGlobals "rest" = some (some (.ref f8)))(l8:K.lookup f8=some ⟨oc8,od8,.func (PySem.W.fnOf "rest" "rest" (Jx Qec) (Jj Qec) (Qt Qec) .none kV8 dc8 pm8 an8 cd8 ct8),sl8⟩)(c8:PySem.W.codeIn K cd8 "rest" = true)(k8:PySem.W.keepIn K (.ref f8)=true)
  (a9:PySem.W.nsIn K mainGlobals "is_order" = some (some (.ref f9)))(l9:K.lookup f9=some ⟨oc9,od9,.func (PySem.W.fnOf "is_order" "is_order" (Jx sIsO) (Jj sIsO) (Qt sIsO) .none kV9 dc9 pm9 an9 cd9 ct9),sl9⟩)(c9:PySem.W.codeIn K cd9 "is_order" = true)(k9:PySem.W.keepIn K (.ref f9)=true)
  (a10:PySem.W.nsIn K mainGlobals "led" = some (some (.ref f10)))(l10:K.lookup f10=some ⟨oc10,od10,.func (PySem.W.fnOf "led" "led" (Jx sLed) (Jj sLed) (Qt sLed) .none kV10 dc10 pm10 an10 cd10 ct10),sl10⟩)(c10:PySem.W.codeIn K cd10 "led" = true)(k10:PySem.W.keepIn K (.ref f10)=true)
  (a11:PySem.W.nsIn K mainGlobals "picked" = some (some (.ref f11)))(l11:K.lookup f11=some ⟨oc11,od11,.func (PySem.W.fnOf "picked" "picked" (Jx QcB) (Jj QcB) (Qt QcB) .none kV11 dc11 pm11 an11 cd11 ct11),sl11⟩)(c11:PySem.W.codeIn K cd11 "picked" = true)(k11:PySem.W.keepIn K (.ref f11)=true)
  (a12:PySem.W.nsIn K mainGlobals "is_lines" = some (some (.ref f12)))(l12:K.lookup f12=some ⟨oc12,od12,.func (PySem.W.fnOf "is_lines" "is_lines" (Jx Qee) (Jj Qee) (Qt Qee) .none kV12 dc12 pm12 an12 cd12 ct12),sl12⟩)(c12:PySem.W.codeIn K cd12 "is_lines" = true)(k12:PySem.W.keepIn K (.ref f12)=true)
  (a13:PySem.W.nsIn K mainGlobals "is_numbers_rising" = some (some (.ref f13)))(l13:K.lookup f13=some ⟨oc13,od13,.func (PySem.W.fnOf "is_numbers_rising" "is_numbers_rising" (Jx QiO) (Jj QiO) (Qt QiO) .none kV13 dc13 pm13 an13 cd13 ct13),sl13⟩)(c13:PySem.W.codeIn K cd13 "is_numbers_rising" = true)(k13:PySem.W.keepIn K (.ref f13)=true)
  (a14:PySem.W.nsIn K mainGlobals "without_lines" = some (some (.ref f14)))(l14:K.lookup f14=some ⟨oc14,od14,.func (PySem.W.fnOf "without_lines" "without_lines" (Jx sWl) (Jj sWl) (Qt sWl) .none kV14 dc14 pm14 an14 cd14 ct14),sl14⟩)(c14:PySem.W.codeIn K cd14 "without_lines" = true)(k14:PySem.W.keepIn K (.ref f14)=true)
  (a15:PySem.W.nsIn K mainGlobals "others" = some (some (.ref f15)))(l15:K.lookup f15=some ⟨oc15,od15,.func (PySem.W.fnOf "others" "others" (Jx sOth) (Jj sOth) (Qt sOth) .none kV15 dc15 pm15 an15 cd15 ct15),sl15⟩)(c15:PySem.W.codeIn K cd15 "others" = true)(k15:PySem.W.keepIn K (.ref f15)=true)
  (a16:PySem.W.nsIn K mainGlobals "counts" = some (some (.ref f16)))(l16:K.lookup f16=some ⟨oc16,od16,.func (PySem.W.fnOf "counts" "counts" (Jx sCnt) (Jj sCnt) (Qt sCnt) .none kV16 dc16 pm16 an16 cd16 ct16),sl16⟩)(c16:PySem.W.codeIn K cd16 "counts" = true)(k16:PySem.W.keepIn K (.ref f16)=true)
  (a17:PySem.W.nsIn K mainGlobals "most_size" = some (some (.ref f17)))(l17:K.lookup f17=some ⟨oc17,od17,.func (PySem.W.fnOf "most_size" "most_size" (Jx QiP) (Jj QiP) (Qt QiP) .none kV17 dc17 pm17 an17 cd17 ct17),sl17⟩)(c17:PySem.W.codeIn K cd17 "most_size" = true)(k17:PySem.W.keepIn K (.ref f17)=true)
  (a18:PySem.W.nsIn K mainGlobals "ways_to_go_on" = some (some (.ref f18)))(l18:K.lookup f18=some ⟨oc18,od18,.func (PySem.W.fnOf "ways_to_go_on" "ways_to_go_on" (Jx QiL) (Jj QiL) (Qt QiL) .none kV18 dc18 pm18 an18 cd18 ct18),sl18⟩)(c18:PySem.W.codeIn K cd18 "ways_to_go_on" = true)(k18:PySem.W.keepIn K (.ref f18)=true)
  (a19:PySem.W.nsIn K mainGlobals "ways_with_row" = some (some (.ref f19)))(l19:K.lookup f19=some ⟨oc19,od19,.func (PySem.W.fnOf "ways_with_row" "ways_with_row" (Jx sRow) (Jj sRow) (Qt sRow) .none kV19 dc19 pm19 an19 cd19 ct19),sl19⟩)(c19:PySem.W.codeIn K cd19 "ways_with_row" = true)(k19:PySem.W.keepIn K (.ref f19)=true)
  (a20:PySem.W.nsIn K mainGlobals "written" = some (some (.ref f20)))(l20:K.lookup f20=some ⟨oc20,od20,.func (PySem.W.fnOf "written" "written" (Jx Qbu) (Jj Qbu) (Qt Qbu) .none kV20 dc20 pm20 an20 cd20 ct20),sl20⟩)(c20:PySem.W.codeIn K cd20 "written" = true)(k20:PySem.W.keepIn K (.ref f20)=true)
  (a21:PySem.W.nsIn K mainGlobals "written_row" = some (some (.ref f21)))(l21:K.lookup f21=some ⟨oc21,od21,.func (PySem.W.fnOf "written_row" "written_row" (Jx ZL) (Jj ZL) (Qt ZL) .none kV21 dc21 pm21 an21 cd21 ct21),sl21⟩)(c21:PySem.W.codeIn K cd21 "written_row" = true)(k21:PySem.W.keepIn K (.ref f21)=true)
  (a22:PySem.W.nsIn K mainGlobals "read" = some (some (.ref f22)))(l22:K.lookup f22=some ⟨oc22,od22,.func (PySem.W.fnOf "read" "read" (Jx QiN) (Jj QiN) (Qt QiN) .none kV22 dc22 pm22 an22 cd22 ct22),sl22⟩)(c22:PySem.W.codeIn K cd22 "read" = true)(k22:PySem.W.keepIn K (.ref f22)=true)
  (a23:PySem.W.nsIn K mainGlobals "are_rows" = some (some (.ref f23)))(l23:K.lookup f23=some ⟨oc23,od23,.func (PySem.W.fnOf "are_rows" "are_rows" (Jx sAre) (Jj sAre) (Qt sAre) .none kV23 dc23 pm23 an23 cd23 ct23),sl23⟩)(c23:PySem.W.codeIn K cd23 "are_rows" = true)(k23:PySem.W.keepIn K (.ref f23)=true)
  (a24:PySem.W.nsIn K mainGlobals "has_board_signs" = some (some (.ref f24)))(l24:K.lookup f24=some ⟨oc24,od24,.func (PySem.W.fnOf "has_board_signs" "has_board_signs" (Jx sHas) (Jj sHas) (Qt sHas) .none kV24 dc24 pm24 an24 cd24 ct24),sl24⟩)(c24:PySem.W.codeIn K cd24 "has_board_signs" = true)(k24:PySem.W.keepIn K (.ref f24)=true)
  (a25:PySem.W.nsIn K mainGlobals "_law_cell_at" = some (some (.ref f25)))(l25:K.lookup f25=some ⟨oc25,od25,.func (PySem.W.fnOf "_law_cell_at" "_law_cell_at" (Jx QcL) (Jj QcL) (Qt QcL) .none kV25 dc25 pm25 an25 cd25 ct25),sl25⟩)(c25:PySem.W.codeIn K cd25 "_law_cell_at" = true)(k25:PySem.W.keepIn K (.ref f25)=true)
  (a26:PySem.W.nsIn K mainGlobals "_law_pot" = some (some (.ref f26)))(l26:K.lookup f26=some ⟨oc26,od26,.func (PySem.W.fnOf "_law_pot" "_law_pot" (Jx lPot) (Jj lPot) (Qt lPot) .none kV26 dc26 pm26 an26 cd26 ct26),sl26⟩)(c26:PySem.W.codeIn K cd26 "_law_pot" = true)(k26:PySem.W.keepIn K (.ref f26)=true)
  (a27:PySem.W.nsIn K mainGlobals "_law_take" = some (some (.ref f27)))(l27:K.lookup f27=some ⟨oc27,od27,.func (PySem.W.fnOf "_law_take" "_law_take" (Jx Qi2) (Jj Qi2) (Qt Qi2) .none kV27 dc27 pm27 an27 cd27 ct27),sl27⟩)(c27:PySem.W.codeIn K cd27 "_law_take" = true)(k27:PySem.W.keepIn K (.ref f27)=true)
  (a28:PySem.W.nsIn K mainGlobals "_law_board" = some (some (.ref f28)))(l28:K.lookup f28=some ⟨oc28,od28,.func (PySem.W.fnOf "_law_board" "_law_board" (Jx Qet) (Jj Qet) (Qt Qet) .none kV28 dc28 pm28 an28 cd28 ct28),sl28⟩)(c28:PySem.W.codeIn K cd28 "_law_board" = true)(k28:PySem.W.keepIn K (.ref f28)=true)
  (a29:PySem.W.nsIn K mainGlobals "_law_order" = some (some (.ref f29)))(l29:K.lookup f29=some ⟨oc29,od29,.func (PySem.W.fnOf "_law_order" "_law_order" (Jx Qes) (Jj Qes) (Qt Qes) .none kV29 dc29 pm29 an29 cd29 ct29),sl29⟩)(c29:PySem.W.codeIn K cd29 "_law_order" = true)(k29:PySem.W.keepIn K (.ref f29)=true)
  (a30:PySem.W.nsIn K mainGlobals "_law_back" = some (some (.ref f30)))(l30:K.lookup f30=some ⟨oc30,od30,.func (PySem.W.fnOf "_law_back" "_law_back" (Jx Qi3) (Jj Qi3) (Qt Qi3) .none kV30 dc30 pm30 an30 cd30 ct30),sl30⟩)(c30:PySem.W.codeIn K cd30 "_law_back" = true)(k30:PySem.W.keepIn K (.ref f30)=true)
  (a31:PySem.W.nsIn K mainGlobals "_law_right" = some (some (.ref f31)))(l31:K.lookup f31=some ⟨oc31,od31,.func (PySem.W.fnOf "_law_right" "_law_right" (Jx Qer) (Jj Qer) (Qt Qer) .none kV31 dc31 pm31 an31 cd31 ct31),sl31⟩)(c31:PySem.W.codeIn K cd31 "_law_right" = true)(k31:PySem.W.keepIn K (.ref f31)=true)
  (a32:PySem.W.nsIn K mainGlobals "law" = some (some (.ref f32)))(l32:K.lookup f32=some ⟨oc32,od32,.func (PySem.W.fnOf "law" "law" (Jx sLaw) (Jj sLaw) (Qt sLaw) .none kV32 dc32 pm32 an32 cd32 ct32),sl32⟩)(c32:PySem.W.codeIn K cd32 "law" = true)(k32:PySem.W.keepIn K (.ref f32)=true)
  (z1:PySem.W.nsIn K mainGlobals "isinstance" = some none)
  (z2:PySem.W.nsIn K mainGlobals "int" = some none)
  (z3:PySem.W.nsIn K mainGlobals "bool" = some none)
  (z4:PySem.W.nsIn K mainGlobals "str" = some none)
  (z5:PySem.W.nsIn K mainGlobals "tuple" = some none)
  (z6:PySem.W.nsIn K mainGlobals "list" = some none)
  (z7:PySem.W.nsIn K mainGlobals "all" = some none)
  (z8:PySem.W.nsIn K mainGlobals "len" = some none)
  (z9:PySem.W.nsIn K mainGlobals "zip" = some none)
  (z10:PySem.W.nsIn K mainGlobals "enumerate" = some none)
  (z11:PySem.W.nsIn K mainGlobals "range" = some none)
  (z12:PySem.W.nsIn K mainGlobals "max" = some none)
  (z13:PySem.W.nsIn K mainGlobals "min" = some none)
  (z14:PySem.W.nsIn K mainGlobals "sorted" = some none)
  (z15:PySem.W.nsIn K mainGlobals "sum" = some none)
  (z16:PySem.W.nsIn K mainGlobals "set" = some none)
  (z17:PySem.W.nsIn K mainGlobals "any" = some none)
  (z18:PySem.W.nsIn K mainGlobals "reversed" = some none)
  (z19:PySem.W.nsIn K mainGlobals "divmod" = some none)
  {tA:_} (aA:PySem.W.nsIn K mainGlobals "MOST_LINES" = some (some (.int 6 tA)))
  {tC:_} (aC:PySem.W.nsIn K mainGlobals "CELL" = some (some (.str csH tC)))
  {tO:_} (aO:PySem.W.nsIn K mainGlobals "OTHER" = some (some (.str csO tO)))
  {tB:_} (aB:PySem.W.nsIn K mainGlobals "BETWEEN" = some (some (.str csB tB)))
  {cT:Addr} (eT:PySem.W.nsIn K mainGlobals "NoText" = some (some (.ref cT)))
  (qT:PySem.W.excIn K cT Rx.mroV "ValueError.__new__" = true)
  :
  ∃fd:QN,(∀(s:Shared)(v:Value),Qmk s fd ⟨[v],[]⟩ [("_law_script",v)])/\∀base:JR,K.In base->base.Ns mainGlobals mg->FnOk l.prog w K mg base CX0 7 fa fd ["_law_script"] (Dl.Qd9 K):=by
 have e:=hfa.symm.trans (PySem.W.mg_of X G a32);cases e;have T:=(⟨(PySem.W.mg_none_of X G z1),(PySem.W.mg_none_of X G z2),(PySem.W.mg_none_of X G z3),(PySem.W.mg_none_of X G z4),(PySem.W.mg_none_of X G z5),(PySem.W.mg_none_of X G z6),(PySem.W.mg_none_of X G z7),(PySem.W.mg_none_of X G z8),(PySem.W.mg_none_of X G z9),(PySem.W.mg_none_of X G z10),(PySem.W.mg_none_of X G z11),(PySem.W.mg_none_of X G z12),(PySem.W.mg_none_of X G z13),(PySem.W.mg_none_of X G z14),(PySem.W.mg_none_of X G z15),(PySem.W.mg_none_of X G z16),(PySem.W.mg_none_of X G z17),(PySem.W.mg_none_of X G z18),(PySem.W.mg_none_of X G z19)⟩:GlbA mg);have F1:=J9 (st:=Qeb) l1 c1 k1;have b1:=F1.binds (ps:=["thing"]) λ_ _ _ _ _ _ us hl=>match us,hl with | [_],_=>rfl
 have m1:=PySem.W.mg_of X G a1;have F2:=J9 (st:=Qcz) l2 c2 k2;have b2:=F2.binds (ps:=["thing", "least", "most"]) λ_ _ _ _ _ _ us hl=>match us,hl with | [_,_,_],_=>rfl
 have m2:=PySem.W.mg_of X G a2;have F3:=J9 (st:=QcA) l3 c3 k3;have b3:=F3.binds (ps:=["things"]) λ_ _ _ _ _ _ us hl=>match us,hl with | [_],_=>rfl
 have m3:=PySem.W.mg_of X G a3;have F4:=J9 (st:=Qeg) l4 c4 k4;have b4:=F4.binds (ps:=["thing"]) λ_ _ _ _ _ _ us hl=>match us,hl with | [_],_=>rfl
 have m4:=PySem.W.mg_of X G a4;have F5:=J9 (st:=Qef) l5 c5 k5;have b5:=F5.binds (ps:=["high", "wide", "thing"]) λ_ _ _ _ _ _ us hl=>match us,hl with | [_,_,_],_=>rfl
 have m5:=PySem.W.mg_of X G a5;have F6:=J9 (st:=Qed) l6 c6 k6;have b6:=F6.binds (ps:=["high", "wide", "thing"]) λ_ _ _ _ _ _ us hl=>match us,hl with | [_,_,_],_=>rfl
 have m6:=PySem.W.mg_of X G a6;have F7:=J9 (st:=QiM) l7 c7 k7;have b7:=F7.binds (ps:=["board"]) λ_ _ _ _ _ _ us hl=>match us,hl with | [_],_=>rfl
 have m7:=PySem.W.mg_of X G a7;have F8:=J9 (st:=Qec) l8 c8 k8;have b8:=F8.binds (ps:=["board"]) λ_ _ _ _ _ _ us hl=>match us,hl with | [_],_=>rfl
 have m8:=PySem.W.mg_of X G a8;have F9:=J9 (st:=sIsO) l9 c9 k9;have b9:=F9.binds (ps:=["many", "thing"]) λ_ _ _ _ _ _ us hl=>match us,hl with | [_,_],_=>rfl
 have m9:=PySem.W.mg_of X G a9;have F10:=J9 (st:=sLed) l10 c10 k10;have b10:=F10.binds (ps:=["board", "rows", "columns"]) λ_ _ _ _ _ _ us hl=>match us,hl with | [_,_,_],_=>rfl
 have m10:=PySem.W.mg_of X G a10;have F11:=J9 (st:=QcB) l11 c11 k11;have b11:=F11.binds (ps:=["board", "rows", "columns"]) λ_ _ _ _ _ _ us hl=>match us,hl with | [_,_,_],_=>rfl
 have m11:=PySem.W.mg_of X G a11;have F12:=J9 (st:=Qee) l12 c12 k12;have b12:=F12.binds (ps:=["board", "thing"]) λ_ _ _ _ _ _ us hl=>match us,hl with | [_,_],_=>rfl
 have m12:=PySem.W.mg_of X G a12;have F13:=J9 (st:=QiO) l13 c13 k13;have b13:=F13.binds (ps:=["many", "thing"]) λ_ _ _ _ _ _ us hl=>match us,hl with | [_,_],_=>rfl
 have m13:=PySem.W.mg_of X G a13;have F14:=J9 (st:=sWl) l14 c14 k14;have b14:=F14.binds (ps:=["board", "lines"]) λ_ _ _ _ _ _ us hl=>match us,hl with | [_,_],_=>rfl
 have m14:=PySem.W.mg_of X G a14;have F15:=J9 (st:=sOth) l15 c15 k15;have b15:=F15.binds (ps:=["many", "numbers"]) λ_ _ _ _ _ _ us hl=>match us,hl with | [_,_],_=>rfl
 have m15:=PySem.W.mg_of X G a15;have F16:=J9 (st:=sCnt) l16 c16 k16;have b16:=F16.binds (ps:=["board"]) λ_ _ _ _ _ _ us hl=>match us,hl with | [_],_=>rfl
 have m16:=PySem.W.mg_of X G a16;have F17:=J9 (st:=QiP) l17 c17 k17;have b17:=F17.binds (ps:=["board"]) λ_ _ _ _ _ _ us hl=>match us,hl with | [_],_=>rfl
 have m17:=PySem.W.mg_of X G a17;have F18:=J9 (st:=QiL) l18 c18 k18;have b18:=F18.binds (ps:=["board"]) λ_ _ _ _ _ _ us hl=>match us,hl with | [_],_=>rfl
 have m18:=PySem.W.mg_of X G a18;have F19:=J9 (st:=sRow) l19 c19 k19;have b19:=F19.binds (ps:=["below", "columns", "taken"]) λ_ _ _ _ _ _ us hl=>match us,hl with | [_,_,_],_=>rfl
 have m19:=PySem.W.mg_of X G a19;have F20:=J9 (st:=Qbu) l20 c20 k20;have b20:=F20.binds (ps:=["board"]) λ_ _ _ _ _ _ us hl=>match us,hl with | [_],_=>rfl
 have m20:=PySem.W.mg_of X G a20;have F21:=J9 (st:=ZL) l21 c21 k21;have b21:=F21.binds (ps:=["board", "row"]) λ_ _ _ _ _ _ us hl=>match us,hl with | [_,_],_=>rfl
 have m21:=PySem.W.mg_of X G a21;have F22:=J9 (st:=QiN) l22 c22 k22;have b22:=F22.binds (ps:=["text"]) λ_ _ _ _ _ _ us hl=>match us,hl with | [_],_=>rfl
 have m22:=PySem.W.mg_of X G a22;have F23:=J9 (st:=sAre) l23 c23 k23;have b23:=F23.binds (ps:=["rows"]) λ_ _ _ _ _ _ us hl=>match us,hl with | [_],_=>rfl
 have m23:=PySem.W.mg_of X G a23;have F24:=J9 (st:=sHas) l24 c24 k24;have b24:=F24.binds (ps:=["signs"]) λ_ _ _ _ _ _ us hl=>match us,hl with | [_],_=>rfl
 have m24:=PySem.W.mg_of X G a24;have F25:=J9 (st:=QcL) l25 c25 k25;have b25:=F25.binds (ps:=["_law_script", "_law_k"]) λ_ _ _ _ _ _ us hl=>match us,hl with | [_,_],_=>rfl
 have m25:=PySem.W.mg_of X G a25;have F26:=J9 (st:=lPot) l26 c26 k26;have b26:=F26.binds (ps:=["_law_cell"]) λ_ _ _ _ _ _ us hl=>match us,hl with | [_],_=>rfl
 have m26:=PySem.W.mg_of X G a26;have F27:=J9 (st:=Qi2) l27 c27 k27;have b27:=F27.binds (ps:=["_law_pot_here", "_law_far"]) λ_ _ _ _ _ _ us hl=>match us,hl with | [_,_],_=>rfl
 have m27:=PySem.W.mg_of X G a27;have F28:=J9 (st:=Qet) l28 c28 k28;have b28:=F28.binds (ps:=["_law_pot_here", "_law_most"]) λ_ _ _ _ _ _ us hl=>match us,hl with | [_,_],_=>rfl
 have m28:=PySem.W.mg_of X G a28;have F29:=J9 (st:=Qes) l29 c29 k29;have b29:=F29.binds (ps:=["_law_pot_here", "_law_many"]) λ_ _ _ _ _ _ us hl=>match us,hl with | [_,_],_=>rfl
 have m29:=PySem.W.mg_of X G a29;have F30:=J9 (st:=Qi3) l30 c30 k30;have b30:=F30.binds (ps:=["_law_order_here"]) λ_ _ _ _ _ _ us hl=>match us,hl with | [_],_=>rfl
 have m30:=PySem.W.mg_of X G a30;have F31:=J9 (st:=Qer) l31 c31 k31;have b31:=F31.binds (ps:=["_law_pot_here", "_law_board_here"]) λ_ _ _ _ _ _ us hl=>match us,hl with | [_,_],_=>rfl
 have m31:=PySem.W.mg_of X G a31;have F32:=J9 (st:=sLaw) l32 c32 k32;refine⟨PySem.W.fnOf "law" "law" (Jx sLaw) (Jj sLaw) (Qt sLaw) .none kV32 dc32 pm32 an32 cd32 ct32,λs v=>.of_eq rfl,λbase _ _=>?_⟩;have G1:FnOk l.prog w K mg base CX0 1 f1 _ ["thing"] (Dl.Zb false Dl.QjK):=Qnn F1 T ;have G2:FnOk l.prog w K mg base CX0 2 f2 _ ["thing", "least", "most"] (Dl.Zb false Qcw):=QkN F2 T m1 G1 b1 k1;have G3:FnOk l.prog w K mg base CX0 1 f3 _ ["things"] (Dl.Zb false QeX):=QkO F3 T ;have G6:FnOk l.prog w K mg base CX0 3 f6 _ ["high", "wide", "thing"] (Dl.Zb false Qkq):=Qnp F6 T m2 G2 b2 k2;have G5:FnOk l.prog w K mg base CX0 4 f5 _ ["high", "wide", "thing"] (Dl.Zb false QlG):=Qns F5 T m6 G6 b6 k6 m3 G3 b3 k3;have G4:FnOk l.prog w K mg base CX0 5 f4 _ ["thing"] (Dl.Zb false Qxe):=Qus ⟨_,PySem.W.mg_of X G aA⟩ F4 T m2 G2 b2 k2 m5 G5 b5 k5;have G7:FnOk l.prog w K mg base CX0 2 f7 _ ["board"] (Dl.Zb false QpE):=QrQ F7 T ;have G8:FnOk l.prog w K mg base CX0 1 f8 _ ["board"] (Dl.Zb false Qkd):=Qno F8 T ;have G9:FnOk l.prog w K mg base CX0 3 f9 _ ["many", "thing"] (Dl.Zb false Qxd):=Qur F9 T m2 G2 b2 k2;have G11:FnOk l.prog w K mg base CX0 1 f11 _ ["board", "rows", "columns"] (Dl.Zb false Qnh):=QkP F11 T ;have G10:FnOk l.prog w K mg base CX0 4 f10 _ ["board", "rows", "columns"] (Dl.Zb false Qr7):=Qup F10 T m9 G9 b9 k9 m11 G11 b11 k11;have G13:FnOk l.prog w K mg base CX0 3 f13 _ ["many", "thing"] (Dl.Zb false QkY):=QrT F13 T m2 G2 b2 k2 m3 G3 b3 k3;have G12:FnOk l.prog w K mg base CX0 4 f12 _ ["board", "thing"] (Dl.Zb false Qhe):=Qnq F12 T m13 G13 b13 k13;have G15:FnOk l.prog w K mg base CX0 1 f15 _ ["many", "numbers"] (Dl.Zb false QwS):=Quo F15 T ;have G14:FnOk l.prog w K mg base CX0 5 f14 _ ["board", "lines"] (Dl.Zb false Qwl):=QwX F14 T m12 G12 b12 k12 m15 G15 b15 k15 m11 G11 b11 k11;have G17:FnOk l.prog w K mg base CX0 1 f17 _ ["board"] (Dl.Zb false Qr1):=QrU F17 T ;have G19:FnOk l.prog w K mg base CX0 1 f19 _ ["below", "columns", "taken"] (Dl.Zb true Qpx):=QrO F19 T ;have G18:FnOk l.prog w K mg base CX0 2 f18 _ ["board"] (Dl.Zb true QpA):=QrP F18 T m19 G19 b19 k19;have G16:FnOk l.prog w K mg base CX0 3 f16 _ ["board"] (Dl.Zb true Qht):=Quu F16 T m18 G18 b18 k18 m17 G17 b17 k17;have G24:FnOk l.prog w K mg base CX0 1 f24 _ ["signs"] QpL:=Qut F24 (⟨T.isinstance,T.int,T.bool,T.str,T.tuple,T.list,T.all,T.len,T.zip,T.enumerate,T.range,T.max,T.min,⟨_,PySem.W.mg_of X G aA⟩,⟨_,PySem.W.mg_of X G aC⟩,⟨_,PySem.W.mg_of X G aO⟩,⟨_,PySem.W.mg_of X G aB⟩⟩:Glb4 mg) ;have G23:FnOk l.prog w K mg base CX0 2 f23 _ ["rows"] QpM:=Quv F23 (⟨T.isinstance,T.int,T.bool,T.str,T.tuple,T.list,T.all,T.len,T.zip,T.enumerate,T.range,T.max,T.min,⟨_,PySem.W.mg_of X G aA⟩,⟨_,PySem.W.mg_of X G aC⟩,⟨_,PySem.W.mg_of X G aO⟩,⟨_,PySem.W.mg_of X G aB⟩⟩:Glb4 mg) m24 G24 b24 k24;have G22:FnOk l.prog w K mg base (Rx.CXE l.prog w) 3 f22 _ ["text"] (Dl.Zb false Qwx):=(QrS F22 (⟨T.isinstance,T.int,T.bool,T.str,T.tuple,T.list,T.all,T.len,T.zip,T.enumerate,T.range,T.max,T.min,⟨_,PySem.W.mg_of X G aA⟩,⟨_,PySem.W.mg_of X G aC⟩,⟨_,PySem.W.mg_of X G aO⟩,⟨_,PySem.W.mg_of X G aB⟩⟩:Glb4 mg) m23 G23 b23 k23 (PySem.W.mg_of X G eT) qT).imp λ_ _ _ _ h=>Qyn h
 have G21:FnOk l.prog w K mg base CX0 1 f21 _ ["board", "row"] QhS:=Qnm F21 (⟨T.isinstance,T.int,T.bool,T.str,T.tuple,T.list,T.all,T.len,T.zip,T.enumerate,T.range,T.max,T.min,⟨_,PySem.W.mg_of X G aA⟩,⟨_,PySem.W.mg_of X G aC⟩,⟨_,PySem.W.mg_of X G aO⟩,⟨_,PySem.W.mg_of X G aB⟩⟩:Glb4 mg) ;have G20:FnOk l.prog w K mg base CX0 2 f20 _ ["board"] (Dl.Zb false Qpz):=(QiV F20 (⟨T.isinstance,T.int,T.bool,T.str,T.tuple,T.list,T.all,T.len,T.zip,T.enumerate,T.range,T.max,T.min,⟨_,PySem.W.mg_of X G aA⟩,⟨_,PySem.W.mg_of X G aC⟩,⟨_,PySem.W.mg_of X G aO⟩,⟨_,PySem.W.mg_of X G aB⟩⟩:Glb4 mg) m21 G21 b21 k21).imp λ_ _ _ _ h=>Qwk h
 have G25:FnOk l.prog w K mg base CX0 1 f25 _ ["_law_script", "_law_k"] (Qb5 K):=QkS F25 T ;have G26:FnOk l.prog w K mg base CX0 1 f26 _ ["_law_cell"] (Dl.Zb true Dl.QwH):=(Qun F26 T).imp λ_ _ _ _ h=>Dl.QwG h
 have G27:FnOk l.prog w K mg base CX0 1 f27 _ ["_law_pot_here", "_law_far"] (Dl.Zb true Dl.QjS):=(QrR F27 T).imp λ_ _ _ _ h=>Dl.Qti h
 have G28:FnOk l.prog w K mg base CX0 2 f28 _ ["_law_pot_here", "_law_most"] (Dl.Zb false Qhg):=QkR F28 T m27 G27 b27 k27;have G29:FnOk l.prog w K mg base CX0 2 f29 _ ["_law_pot_here", "_law_many"] (Dl.Zb false Qk5):=QrV F29 T m27 G27 b27 k27;have G30:FnOk l.prog w K mg base CX0 1 f30 _ ["_law_order_here"] (Dl.Zb false Qhh):=Qnr F30 T ;have G31:FnOk l.prog w K mg base CX0 6 f31 _ ["_law_pot_here", "_law_board_here"] (Dl.Zb false Qfa):=QkQ F31 T m29 G29 b29 k29 m7 G7 b7 k7 m8 G8 b8 k8 m10 G10 b10 k10 m4 G4 b4 k4 m30 G30 b30 k30 m16 G16 b16 k16 m22 G22 b22 k22 m20 G20 b20 k20 m27 G27 b27 k27 m14 G14 b14 k14;exact Quq F32 T m25 G25 b25 k25 m26 G26 b26 k26 m28 G28 b28 k28 m31 G31 b31 k31
theorem Qyg{l:PySem.W.OpenLaw}{q:Qz}{loose:List Str}{XP:(Str->Option Value)->JR->Prop}{YP:Jf->JR->Prop}{d:DefRec}{K:Params->PySem.W.Frag}(hn:l.most=some 63)(hdf:d.params.defaults=[])
  (hY:∀(w:Jf)(h:JR),YP w h->(K w.params).In h)
  (F:∀(w:Jf)(mg:Str->Option Value)(fa:Addr)(h:JR),(K w.params).In h->h.Ns mainGlobals mg->mg d.name=some (.ref fa) ->
   ∃fd:QN,(∀(s:Shared)(u:Value),Qmk s fd ⟨[u],[]⟩ [("_law_script",u)])/\∀base:JR,(K w.params).In base->base.Ns mainGlobals mg->FnOk l.prog w (K w.params) mg base CX0 7 fa fd ["_law_script"] (Dl.Qd9 (K w.params))) :
  PySem.W.WalkO q loose XP YP l.row.toRowW d [] (λf vs=>PySem.call f vs):=
 L2.QpB (n:=63) (k:=7) (x := "_law_script") (CX:=λ_=>CX0) (sp:=λw=>(Dl.Qd9 (K w.params))) hn (by decide) hdf ⟨rfl,by decide,by decide⟩ hY F (λ_ _ a ns hl _ hS=>⟨a,ns,rfl,hS,hl,λ_=>rfl⟩) λ_ _ _ _ _ z=>z
end Rk
open PySem.W
set_option maxRecDepth 100000 in
set_option maxHeartbeats 0 in
theorem PySem.Challenge.cw_rooklands_k05_whole_boards_holds : PySem.Challenge.rw_rooklands_k05_whole_boards.Holds := by
 w_on;o_law;k_head;(case hw=>w_witness2)
 k_fill
 refine Rk.Qyg (l:=PySem.Challenge.rw_rooklands_k05_whole_boards) rfl rfl (λw h Y=>PySem.W.kIn_of Y) ?F
 case F=>
  intro w mg fa h KX G hmg;refine' Rk.Qvl KX G hmg ?a1 ?l1 ?c1 ?k1 ?a2 ?l2 ?c2 ?k2 ?a3 ?l3 ?c3 ?k3 ?a4 ?l4 ?c4 ?k4 ?a5 ?l5 ?c5 ?k5 ?a6 ?l6 ?c6 ?k6 ?a7 ?l7 ?c7 ?k7 ?a8 ?l8 ?c8 ?k8 ?a9 ?l9 ?c9 ?k9 ?a10 ?l10 ?c10 ?k10 ?a11 ?l11 ?c11 ?k11 ?a12 ?l12 ?c12 ?k12 ?a13 ?l13 ?c13 ?k13 ?a14 ?l14 ?c14 ?k14 ?a15 ?l15 ?c15 ?k15 ?a16 ?l16 ?c16 ?k16 ?a17 ?l17 ?c17 ?k17 ?a18 ?l18 ?c18 ?k18 ?a19 ?l19 ?c19 ?k19 ?a20 ?l20 ?c20 ?k20 ?a21 ?l21 ?c21 ?k21 ?a22 ?l22 ?c22 ?k22 ?a23 ?l23 ?c23 ?k23 ?a24 ?l24 ?c24 ?k24 ?a25 ?l25 ?c25 ?k25 ?a26 ?l26 ?c26 ?k26 ?a27 ?l27 ?c27 ?k27 ?a28 ?l28 ?c28 ?k28 ?a29 ?l29 ?c29 ?k29 ?a30 ?l30 ?c30 ?k30 ?a31 ?l31 ?c31 ?k31 ?a32 ?l32 ?c32 ?k32 ?z1 ?z2 ?z3 ?z4 ?z5 ?z6 ?z7 ?z8 ?z9 ?z10 ?z11 ?z12 ?z13 ?z14 ?z15 ?z16 ?z17 ?z18 ?z19 ?aA ?aC ?aO ?aB ?eT ?qT
  (case a1=>k_is)
  (case l1=>k_is)
  (case c1=>k_is)
  (case k1=>k_is)
  (case a2=>k_is)
  (case l2=>k_is)
  (case c2=>k_is)
  (case k2=>k_is)
  (case a3=>k_is)
  (case l3=>k_is)
  (case c3=>k_is)
  (case k3=>k_is)
  (case a4=>k_is)
  (case l4=>k_is)
  (case c4=>k_is)
  (case k4=>k_is)
  (case a5=>k_is)
  (case l5=>k_is)
  (case c5=>k_is)
  (case k5=>k_is)
  (case a6=>k_is)
  (case l6=>k_is)
  (case c6=>k_is)
  (case k6=>k_is)
  (case a7=>k_is)
  (case l7=>k_is)
  (case c7=>k_is)
  (case k7=>k_is)
  (case a8=>k_is)
  (case l8=>k_is)
  (case c8=>k_is)
  (case k8=>k_is)
  (case a9=>k_is)
  (case l9=>k_is)
  (case c9=>k_is)
  (case k9=>k_is)
  (case a10=>k_is)
  (case l10=>k_is)
  (case c10=>k_is)
  (case k10=>k_is)
  (case a11=>k_is)
  (case l11=>k_is)
  (case c11=>k_is)
  (case k11=>k_is)
  (case a12=>k_is)
  (case l12=>k_is)
  (case c12=>k_is)
  (case k12=>k_is)
  (case a13=>k_is)
  (case l13=>k_is)
  (case c13=>k_is)
  (case k13=>k_is)
  (case a14=>k_is)
  (case l14=>k_is)
  (case c14=>k_is)
  (case k14=>k_is)
  (case a15=>k_is)
  (case l15=>k_is)
  (case c15=>k_is)
  (case k15=>k_is)
  (case a16=>k_is)
  (case l16=>k_is)
  (case c16=>k_is)
  (case k16=>k_is)
  (case a17=>k_is)
  (case l17=>k_is)
  (case c17=>k_is)
  (case k17=>k_is)
  (case a18=>k_is)
  (case l18=>k_is)
  (case c18=>k_is)
  (case k18=>k_is)
  (case a19=>k_is)
  (case l19=>k_is)
  (case c19=>k_is)
  (case k19=>k_is)
  (case a20=>k_is)
  (case l20=>k_is)
  (case c20=>k_is)
  (case k20=>k_is)
  (case a21=>k_is)
  (case l21=>k_is)
  (case c21=>k_is)
  (case k21=>k_is)
  (case a22=>k_is)
  (case l22=>k_is)
  (case c22=>k_is)
  (case k22=>k_is)
  (case a23=>k_is)
  (case l23=>k_is)
  (case c23=>k_is)
  (case k23=>k_is)
  (case a24=>k_is)
  (case l24=>k_is)
  (case c24=>k_is)
  (case k24=>k_is)
  (case a25=>k_is)
  (case l25=>k_is)
  (case c25=>k_is)
  (case k25=>k_is)
  (case a26=>k_is)
  (case l26=>k_is)
  (case c26=>k_is)
  (case k26=>k_is)
  (case a27=>k_is)
  (case l27=>k_is)
  (case c27=>k_is)
  (case k27=>k_is)
  (case a28=>k_is)
  (case l28=>k_is)
  (case c28=>k_is)
  (case k28=>k_is)
  (case a29=>k_is)
  (case l29=>k_is)
  (case c29=>k_is)
  (case k29=>k_is)
  (case a30=>k_is)
  (case l30=>k_is)
  (case c30=>k_is)
  (case k30=>k_is)
  (case a31=>k_is)
  (case l31=>k_is)
  (case c31=>k_is)
  (case k31=>k_is)
  (case a32=>k_is)
  (case l32=>k_is)
  (case c32=>k_is)
  (case k32=>k_is)
  (case z1=>k_is)
  (case z2=>k_is)
  (case z3=>k_is)
  (case z4=>k_is)
  (case z5=>k_is)
  (case z6=>k_is)
  (case z7=>k_is)
  (case z8=>k_is)
  (case z9=>k_is)
  (case z10=>k_is)
  (case z11=>k_is)
  (case z12=>k_is)
  (case z13=>k_is)
  (case z14=>k_is)
  (case z15=>k_is)
  (case z16=>k_is)
  (case z17=>k_is)
  (case z18=>k_is)
  (case z19=>k_is)
  (case aA=>k_is)
  (case aC=>k_is)
  (case aO=>k_is)
  (case aB=>k_is)
  (case eT=>k_is)
  (case qT=>k_exc)
