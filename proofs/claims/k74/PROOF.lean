import PyProof.Rows.All
import Wide.All
import OpenK.AllK
import Wide.FinOn
import Lean
import PyProof.EqAt
import PyProof.EqKinds
import PyProof.TupleCall
import PyProof.P3Eq
import PyProof.Draws
import PyProof.EnumMake
import PyProof.NeData
import KE.LcSums
import PyProof.WalkInts
import PyProof.SeqI3
import PyProof.Rows.CallKwBuiltin
import KE.KLam
import PyProof.Rows.SortRuns
import PyProof.Rows.SortShellK
import KE.KSortTup
import KE.KRevIter
import PyProof.FactsAll.range_2
import PyProof.MinMaxWalk
import PyProof.WalksMore
import PySem.Challenge.RW_rooklands_k74_no_weights
local macro_rules | `(tactic| omega) => `(tactic| first | lia | omega +splitDisjunctions)
open PySem.W renaming Frag->Qa,kitOne->Qb,keepIn->Qc,nsIn->Qf,mg_of->Qh,codeIn->Qu,fnOf->QB,mg_none_of->QN,mroIn->Ji,findIn->Jl,kia_one->JE,excIn->JH,CodeHd->J8,clsIn->ZE,callWith_K->YZ,cellsFrom_some->QaC,kla_obj->QaO,tabObj->Qba,methodObj->Qcm,instObj->Qdg,OpenLaw->Qdh,noTabs->Qd0,lookIn->Qd1,kla_fn->Qd2,looks_mroIn->Qhq,hideAll_get->Qhr,of_hideAll->Qij,codeRec_of->Qik,specialIn->QiB,kitx_list->QiC,kitx_dict->QiD,plainGet->Qld,codeHdIn->Qle,takesIn->Qll,hideAll->Qlm,typeIn->Qns,looks_findIn->Qog,WalkO->Qom,Looks->Qon
open PySem.Heap renaming get?_push_of_some->Qd,lt_size->Qi,get?_push_size->Qp,size_push->Zd,get?_update_other->ZR,get?_update_self->YA,SameBut->Qac,IsTuple->Qiq,FlyingW->QuZ
open PySem.PyData renaming int->Qe,eqv->Jo,canLayAll0->JB,depthAll->JQ,bool->Yo,canLay0->Yp,depth->Yu,tuple->QaR,eqvAll->QrH,list->Quh
open List renaming length_map->Qg,getElem?_eq_getElem->Qm,size_toArray->Qo,replicate->Qv,getElem?_eq_some_iff->Qw,mem_cons->Qx,getElem?_map->Qz,length_append->QF,mem_append_right->QJ,mem_of_getElem?->QM,mem_map->QU,lookup_cons->QV,mem_singleton->QY,not_mem_nil->QZ,getD_eq_getElem?_getD->Q2,length_cons->Q4,mem_iff_getElem?->Q7,range->Q9,length_range->Ja,map_map->Jj,replicate_succ->Jm,mem_cons_of_mem->Jp,getElem?_eq_none->JA,mem_range->JI,mem_filter->JJ,mem_cons_self->JR,getElem?_range->JV,flatten_cons->JW,mem_append->JY,all_eq_true->J6,map_cons->Zc,take_add_one->Zf,map_congr_left->Zi,length_set->Zj,append_nil->Zk,length_replicate->Zq,getLastD_eq_getLast?->Zx,map_append->ZC,take_length->ZM,mem_toArray->Yb,getElem?_replicate->Yk,getElem?_set_self->Yq,nodup_append->Yv,length_filter_le->Yz,length_take->YG,any_eq_true->YH,pairwise_append->YJ,getElem?_set_ne->YK,dropLast_concat_getLast->YM,filterMap_cons->Y0,getElem?_append_right->Qaa,getElem?_append_left->Qan,getElem?_set->QaA,ext_getElem?->QaB,sum_cons->QaJ,mem_flatMap->QaP,of_mem_zip->Qbb,nodup_cons->Qbc,length_singleton->Qbd,mem_append_left->QbG,getLast?_append->QbH,flatMap_append->Qcd,mem_filterMap->Qcs,filterMap_map->Qct,flatMap_cons->Qdf,length_drop->Qdo,getElem_mem->Qdp,nil_append->QeL,map_id->QeM,lookup->QeN,length_nil->QeO,forIn_cons->QeP,getLast?_eq_some_iff->QfK,getLast?_eq_none_iff->QfL,foldl->QfR,pairwise_singleton->Qgy,getLast?_cons_cons->Qgz,getElem?_cons_zero->QgA,getElem?_cons_succ->QgB,all_cons->QgC,filter_eq_nil_iff->Qhs,pairwise_flatMap->Qil,map_nil->Qim,getElem?_toArray->Qin,filterMap_append->Qio,any_map->Qip,mem_of_getLast?->QiH,length_pos_iff->Qlf,zip_cons_cons->Qlp,countP_append->Qlq,pairwise_map->Qnu,append_assoc->Qnv,zipIdx_cons->Qoo,map_flatMap->Qop,flatMap_map->Qoq,zipIdx_nil->QrL,range_succ->QrM,map_const'->QrN,foldl_cons->QrO,forIn_nil->QrY,take_nil->Quj,drop_nil->Quk,any_cons->Qul
open PySem renaming wpAny_pure->Qj,FuncData->Qy,Program->QD,Expr->QL,Around->Q5,World->Je,wpAny_truthy_bool->Jy,wpAny_newObj_type->JD,Heap->JM,wpAny_holding->JN,wpAny_seqItems->JU,wpAny_field->J3,wpAny_callSpecial?_slot->Zl,wpAny_loadPart'->Zp,wpAny_pyIter_tuple->Zz,Stmt->ZA,mem_of_lookup->ZG,Scope->ZK,Paired->ZQ,wpAny_call_entry->ZY,wpAny_setField_rec->Z2,wpAny_Call_Name_kw->Z3,wpAny_newFunctionEnv->Yf,wpAny_tryCatch->Yh,NameKind->Yj,wpAny_comprehension_free->Yn,codeAny_compStart_list->YF,codeAny_mono->YT,wpAny_passesOwn->Qas,wpAny_letGo->Qat,wpAny_execs_nil->Qau,codeAny_builtin->Qav,wpAny_pyIter_list->Qa1,wpAny_pyIter_enum->Qa2,wpAny_call->Qa3,call_meets->Qa5,Builtin->Qbl,wpAny_pyIter_zip->QbD,wpAny_execs_cons->QbE,wpAny_pyNext_list_item->QbI,wpAny_pyNext_list_end->Qck,ReadsAll->Qcr,wpAny_updateSeq_pair->QcE,codeAny_call_builtin->QcF,BindsTo->Qdi,wpAny_onRaise->QdW,wpAny_attempt->QdX,plainId_quiet->QdY,Fin->Qd3,Operator->Qd4,Comprehension->Qd6,Arguments->Qd9,typeIs_int->QeU,seqIndex_neg->QfJ,IsPart->QfM,noFill_tuple_add->QfQ,wpAny_updateSeq->Qhm,sizeLine_eq->Qhn,seqIndex_of->Qho,Result->Qhp,CmpOp->Qhu,wpAny_newFunctionEnv_cells->Qif,wpAny_letOwnedTupleGo_enum->Qig,wpAny_letOwnedTupleGo_zip->Qiy,wpAny_binaryOp_repeat_ref->Qiz,Reads->QiA,Model->QiG,seq_tuple_add->Qlj,call->Qlk,wpAny_getItem_list_neg->Qno,seqSlot_of->Qnr,wpAny_typeOf->Qof,exec_Assign_Name_used->Qoh,concat_meets->Qoi,codeAny_call_function->Qoj,IsZip->Qor,wpAny_List_spliced->Qud,ZipApart->Quf,Within->Qug,wpAny_sequenceKey->QuF,wpAny_assign_Name->QuG,wpAny_Return_some->QuH,wpAny_Name->QuI,slot_list_getitem->QuJ
open Nat renaming le_refl->Ql,ne_of_lt->Qs,lt_of_lt_of_le->Qt,le_trans->QQ,zero_le->Jx,le_of_lt->Ze,lt_irrefl->ZL,lt_of_le_of_lt->ZU,lt_succ_of_lt->Yy,ne_of_gt->Qbi,min_le_right->Qd5,succ_mul->QiE,mul_comm->QiF,lt_succ_self->QrJ,le_max_right->QrK,min_le_left->QrX
open Option.some renaming inj->Qq
open Bool renaming false_ne_true->Qr,and_eq_true_iff->QC,and_eq_true->Ju,eq_iff_iff->Yl,true_and->Qcu,false_and->QfO,false_eq_true->Qlt,and_false->Qr2,false_or->Qur
open Or renaming inl->Q0,inr->Q8
open PySem.NameKind renaming free->Q1,cell->ZV
open False renaming elim->Jh
open PySem.Builtin.SmallTypes renaming nextOf->Jq,ownedTupleIsFree->JX,ownedTupleHandOut->Y2
open Option renaming map_eq_some_iff->Jw,getD_some->Qln,getD_none->Qlo,none->Qui
open PyProof.Rows renaming slot_tuple_getitem->Jz,callWith_type1->JL,Keyed->Y1,step_dedup->Qa4,IntsAre->Qbj,AllBare->Qcn,SortKind->QdZ,subscriptTail_builtinR->Qnp,entry_tuple_getitem->QrU,args_tuple_getitem->Que
open PySem.Value renaming ref->JG,bool->Zo,none->Ye,builtin->Qcl,type->QcG,notImplemented->Qih,str->Qok,int->Qol,float->QuL
open PySem.Builtin.Int renaming intBits->JS,intTooBig->Qd7
open ForInStep renaming yield->Za
open PySem.PassesOwn renaming never->Zs
open PySem.F renaming plain_min_loop->Zy,slot_tuple_iterator_next->Ya,args_tuple_add_2->Qab,entry_tuple_add->Qaw,slot_tuple_add->QaD,entry_min_loop->Qbe,slot_zip_next->QbJ,slot_int_rmul->QbK,excBase_ValueError->Qdn,plainAttrs_list->QeX,slot_tuple_mul->QeY,args_tuple_iterator_next_1->QfN,entry_tuple_iterator_next->QfS,excAttr_ValueError->Qnx,slot_tuple_rmul->QrZ,args_zip_next_1->Qr0,args_int_rmul_2->Qr1,slot_int_index->Quo,entry_zip_next->Qup,entry_int_rmul->Quq,fills_int_mul->Qu0
open Array renaming length_toList->ZH,getElem?_eq_getElem->Qad,toList_append->QbL,getD_eq_getD_getElem?->Qd8,mem_toList_iff->Qis,getElem_toList->Qit,append_assoc->Qlh,toList->Qus
open List.Pairwise renaming filter->ZN,nil->QuV,map->QuW,imp_of_mem->QuX,imp->QuY
open PySem.Builtin.Slice renaming slicePlaces->ZS,sliceAdjust->YB,sliceApplied->Qcf,slicePartIndex->Qu4,sliceFields->Qu5
open PySem.Builtin.Tuple renaming tupleExact->Z1,tupleItemsOf->Qce,tupleTooMany->Qu1,tupleIsExact->Qu2,tupleCompareSizes->Qu3
open Int renaming toNat_natCast->Z4,zero_add->Qbk,le_trans->Qdq,toNat_of_nonneg->Qlr,natCast_nonneg->Qnw
open PySem.Around renaming under_plainId->YC,frames_deeper->Qhv
open PySem.Challenge renaming rw_rooklands_k74_no_weights->YI,pw_rooklands_k74_no_weights->QrW
open PySem.Builtin.List renaming listTooLong->YN
open PySem.Str renaming ofString->Qam
open Ne renaming symm->Qaz
open PySem.Builtin.Builtins renaming bindParams->Qbf
open True renaming intro->Qbg
open Sum renaming inl->Qbh,inr->QeV
open PySem.Obj renaming mapSeq->QbF,data_mapFields->Qnt
open PySem.Heap.SameBut renaming update->QeQ
open PySem.Calls renaming Name_function_global->QeR,evalArgs_plain->Qir,spliced_cons->Qlg,spliced_nil->Qls
open PySem.SeqAt.EqAt renaming bool_bool->QeW
open PyProof.Rows.LSm renaming kept_iter->Qht
open PySem.Shared renaming heap->Qii
open PySem.SeqAt renaming eqAt_reads->Qnq
open PySem.Paired renaming length->QrI
open Sum.inl renaming inj->QrV
open PySem.Heap.UpToSlots renaming of_keeps->Qum
open PySem.Heap.IsSliceOf renaming new->Qun
open PySem.W.WShape renaming has->QuK
open PySem.W.Looks renaming of_pure->QuM
open PySem.EqMixed renaming ne_str_int->QuN,ne_str_bool->QuO,ne_int_str->QuP,ne_bool_str->QuQ,eq_str_int->QuR,eq_str_bool->QuS,eq_int_str->QuT,eq_bool_str->QuU
open PySem.Builtin.Range renaming rangeSize->Qu6
open PySem PySem.Spec PyProof.Rows
set_option Elab.async false
set_option linter.all false
set_option maxRecDepth 100000
namespace L2
abbrev Key:=Sum Int Str
def Qty:Key->Value->Bool
 |.inl k,v=>Value.isInt k v
 |.inr x,v=>Value.isStrOf x v
def Qxh(w:Je):Key->Int
 |.inl k=>hashInt k
 |.inr x=>hashStr w x
theorem ZB:∀{k:Key}{v:Value},Qty k v=true->(∃i t,k=Qbh i/\v=Qol i t)∨(∃x t,k=QeV x/\v=Qok x t)
 |.inl i,v,h=>by
  obtain⟨t,e⟩:=Value.isInt_shape (k:=i) (v:=v) h;exact .inl ⟨i,t,rfl,e⟩
 |.inr x,v,h=>by
  obtain⟨t,e⟩:=Value.isStrOf_shape (x:=x) (v:=v) h;exact .inr ⟨x,t,rfl,e⟩
theorem Qtx(a b:Int):decide ((Qbh a:Key)=Qbh b)=(a == b):=by
 by_cases e:a=b
 ·subst e;simp
 ·have h:¬(Qbh a:Key)=Qbh b:=λq=>e (QrV q)
  rw[decide_eq_false h];exact(beq_eq_false_iff_ne.mpr e).symm
theorem Qtu(a b:Str):decide ((QeV a:Key)=QeV b)=decide (a=b):=by
 by_cases e:a=b
 ·subst e;simp
 ·have h:¬(QeV a:Key)=QeV b:=λq=>e (Sum.inr.inj q)
  rw[decide_eq_false h,decide_eq_false e]
theorem Qtw(a:Int)(b:Str):decide ((Qbh a:Key)=QeV b)=false:=decide_eq_false (λq=>nomatch q)
theorem Qtv(a:Str)(b:Int):decide ((QeV a:Key)=Qbh b)=false:=decide_eq_false (λq=>nomatch q)
def mixKind(prog:QD)(w:Je):PySem.KeyKind prog w Key where
 is:=Qty
 hash:=Qxh w
 inj:=λv a b ha hb=>by
  rcases ZB ha with⟨i,t,rfl,rfl⟩ | ⟨x,t,rfl,rfl⟩
  ·rcases ZB hb with⟨j,u,rfl,e⟩ | ⟨y,u,rfl,e⟩
   ·injection e with e1 _;rw[e1]
   ·exact nomatch e
  ·rcases ZB hb with⟨j,u,rfl,e⟩ | ⟨y,u,rfl,e⟩
   ·exact nomatch e
   ·injection e with e1 _;rw[e1]
 byValue:=λk v h=>by
  rcases ZB h with⟨i,t,rfl,rfl⟩ | ⟨x,t,rfl,rfl⟩<;>rfl
 pyHash:=λhv h=>by
  rcases ZB hv with⟨i,t,rfl,rfl⟩ | ⟨x,t,rfl,rfl⟩
  ·exact wpAny_pyHash_int h
  ·exact wpAny_pyHash_str h
 eqBool:=λhu hv h=>by
  rcases ZB hu with⟨i,t,rfl,rfl⟩ | ⟨x,t,rfl,rfl⟩
  ·rcases ZB hv with⟨j,u,rfl,rfl⟩ | ⟨y,u,rfl,rfl⟩
   ·rw[Qtx] at h;exact wpAny_eqBool_int h
   ·rw[Qtw] at h;exact SeqAt.EqAt.int_str i t y u _ _ _ _ h
  ·rcases ZB hv with⟨j,u,rfl,rfl⟩ | ⟨y,u,rfl,rfl⟩
   ·rw[Qtv] at h;exact SeqAt.EqAt.str_int x t j u _ _ _ _ h
   ·rw[Qtu] at h;exact wpAny_eqBool_str h
 «strs» := λk x t v h=>by
  rcases ZB h with⟨i,u,rfl,e⟩ | ⟨y,u,rfl,e⟩
  ·exact nomatch e
  ·injection e with e1 _
   subst e1;cases v<;>rfl
inductive V where
 |non | bl (b:Bool) | int (i:Int) | str (x:Str) | byt (b:Array UInt8) | flt (b:UInt64) | ref (a:Addr) | ty (n:String)
 deriving DecidableEq
def RelV:V->Value->Prop
 |.non,u=>u=Ye
 |.bl b,u=>u=Zo b
 |.int i,u=>∃t,u=Qol i t
 |.str x,u=>∃t,u=Qok x t
 |.byt b,u=>∃t,u=Value.bytes b t
 |.flt b,u=>∃t,u=QuL b t
 |.ref a,u=>u=JG a
 |.ty n,u=>u=QcG n
abbrev Vals:List V->List Value->Prop:=ZQ RelV
theorem Vals.length{xs:List V}{us:List Value}(r:Vals xs us):xs.length=us.length:=QrI r
theorem Vals.get:∀{xs:List V}{us:List Value}{i:Nat}{x:V},Vals xs us->xs[i]? = some x->∃u,us[i]? = some u/\RelV x u
 |_,_,_,_,.nil,e=>by simp at e
 |_,_,0,_,.cons r _,e=>by simp at e;subst e;exact⟨_,rfl,r⟩
 |_,_,i+1,x,.cons _ t,e=>by
  obtain⟨u,h1,h2⟩:=Vals.get (i:=i) (x:=x) t (by simpa using e);exact⟨u,by simpa using h1,h2⟩
theorem Vals.set{x:V}{u:Value}(r:RelV x u):∀{xs:List V}{us:List Value}(i:Nat),Vals xs us->Vals (xs.set i x) (us.set i u)
 |_,_,_,.nil=>.nil
 |_,_,0,.cons _ t=>.cons r t
 |_,_,i+1,.cons q t=>.cons q (Vals.set r i t)
theorem Vals.append:∀{xs ys:List V}{us ws:List Value},Vals xs us->Vals ys ws->Vals (xs++ys) (us++ws)
 |_,_,_,_,.nil,s=>s
 |_,_,_,_,.cons r t,s=>.cons r (Vals.append t s)
theorem Vals.take:∀{xs:List V}{us:List Value}(n:Nat),Vals xs us->Vals (xs.take n) (us.take n)
 |_,_,0,_=>.nil
 |_,_,_+1,.nil=>.nil
 |_,_,n+1,.cons r t=>.cons r (Vals.take n t)
theorem Vals.drop:∀{xs:List V}{us:List Value}(n:Nat),Vals xs us->Vals (xs.drop n) (us.drop n)
 |_,_,0,r=>r
 |_,_,_+1,.nil=>.nil
 |_,_,n+1,.cons _ t=>Vals.drop n t
def Qv7:Option V->Option Value->Prop
 |some v,some u=>RelV v u
 |none,none=>True
 |_,_=>False
def KV{κ:Type}:List (κ×V)->List (κ×Value)->Prop:=ZQ λ(p:κ×V)(q:κ×Value)=>p.1=q.1/\RelV p.2 q.2
def kV:Key->V
 |.inl i=>.int i
 |.inr x=>.str x
inductive HO where
 /-- a list -/
 |lst (xs:List V)
 /-- a tuple (never changes) -/
 |tup (xs:List V)
 /-- a dict whose keys are ints and texts;one whose keys are tuples of ints and texts (the empty one is both) -/
 |dK (kvs:List (Key×V)) | dT (kvs:List (List Key×V))
 /-- a set of ints: its members,its size -/
 |set (S:Int->Bool) (n:Nat)
 /-- an instance of the class at C,its dict at dx,its attributes -/
 |ins (C dx:Addr) (fs:List (Str×V))
 /-- the dict of the instance at x -/
 |own (x:Addr)
 /-- the dict of an exception -/
 |xd (fs:List (Str×V))
 /-- a bound method,f of x -/
 |met (f x:Addr)
 /-- a range object lo,lo+1,.. below hi -/
 |rng (lo hi:Int)
 /-- a thing that is known to the object (the script;a dict while a loop walks it): read,never written while it is so -/
 |frz (o:Obj) (u:HO)
 /-- a code object's table -/
 |tbl (ps:Array Value)
 /-- any other thing,by what is true of its one object (a def of one's own: SetO a S n:=HO.ext λh=>..) -/
 |ext (φ:JM->Prop)
abbrev Hp:=Addr->Option HO
def upd(H:Hp)(a:Addr)(o:HO):Hp:=λb=>if b=a then some o else H b
theorem Jc{H:Hp}{a:Addr}{o:HO}:upd H a o a=some o:=by unfold upd;rw[if_pos rfl]
theorem Jb{H:Hp}{a b:Addr}{o:HO}(h:b≠a):upd H a o b=H b:=by unfold upd;rw[if_neg h]
theorem JK{H:Hp}{a b:Addr}{o:HO}(h:H a=some o)(h':H b=none):a≠b:=by
 intro e;subst e;rw[h] at h';cases h'
def TupN(h:JM)(a:Addr)(items:Array Value):Prop:=∃o,h.get? a=some o/\o.cls=.type "tuple" /\ o.dict=none/\∃n,o.data=.seq items n
theorem TupN.tup{h:JM}{a:Addr}{items:Array Value}(x:TupN h a items):IsTup h a items:=let ⟨o,e,c,_,d⟩:=x;⟨o,e,c,d⟩
theorem TupN.lt{h:JM}{a:Addr}{items:Array Value}(x:TupN h a items):a<h.objs.size:=let ⟨_,e,_⟩:=x;Qi e
theorem TupN.new(h:JM)(items:Array Value):TupN (h.push { cls:=.type "tuple",data:=.seq items }) h.objs.size items:=⟨_,Qp _ rfl,rfl,rfl,_,rfl⟩
def Qu7(ps:Array Value):Str:=match ps.toList with
 |.str q _::_=>q
 |_ => ""
section
variable(P:QD)(w:Je)
def ObjOk(H:Hp)(h:JM)(a:Addr):HO->Prop
 |.lst xs=>xs.length<=sizeLine/\∃(its:List Value)(n:Nat),Vals xs its/\h.get? a=some { cls:=.type "list",data:=.seq its.toArray n }
 |.tup xs=>xs.length<=sizeLine/\∃its:List Value,Vals xs its/\TupN h a its.toArray
 |.dK kvs=>kvs.length<=sizeLine/\(a == sysModules)=false/\∃vs,KV kvs vs/\h.DictOf (mixKind P w) a vs
 |.dT kvs=>kvs.length<=sizeLine/\(a == sysModules)=false/\∃xs:List (List Key×Addr×Value),
   ZQ (λ(p:List Key×V)(q:List Key×Addr×Value)=>p.1=q.1/\H q.2.1=some (.tup (p.1.map kV))/\RelV p.2 q.2.2) kvs xs /\
   ∃o es ep,h.get? a=some o/\o.ExactDict/\o.data=.dict es ep/\es.toList=xs.map (entryOfKey (tupleKind (mixKind P w)))/\(xs.map (·.1)).Nodup
 |.set S n=>h.SetOf (intKind P w) a S n
 |.ins C dx fs=>H dx=some (.own a)/\fs.length<=1000/\dx≠a/\h.get? a=some (PySem.W.instObj C dx) /\
   ∃mA,h.Ns1 dx mA/\(∀f,Qv7 (fs.lookup f) (mA f))/\PySem.Within mA (fs.map (·.1))
 |.own _=>∃o,h.get? a=some o
 |.xd fs=>∃mA,h.Ns1 a mA/\∀f,Qv7 (fs.lookup f) (mA f)
 |.rng lo hi=>∃t u v,h.get? a=some { cls:=.type "range",data:=.fields #[.int lo t,.int hi u,.int 1 v] }
 |.frz o u=>h.get? a=some o/\ObjOk H h a u
 |.tbl ps=>∃qs:Array Value,h.get? a=some { cls:=.none,data:=.fields qs }/\TriplesOk qs.toList/\∀pos v,codeAmong pos qs.toList=some v->∃c oc vs t,v=.ref c/\H c=some (.frz oc (.own c))/\oc.data=.fields vs/\vs[1]? = some (.str (Qu7 ps) t)
 |.met f x=>h.get? a=some (PySem.W.methodObj (.ref f) (.ref x))
 |.ext φ=>φ h/\(∃o,h.get? a=some o)/\∀h1 h2:JM,φ h1->(∀o,h1.get? a=some o->h2.get? a=some o)->φ h2
def HOk(H:Hp)(h:JM):Prop:=∀a o,H a=some o->ObjOk P w H h a o
end
section
variable{P:QD}{w:Je}{H H':Hp}{h h':JM}{a:Addr}{o:HO}
theorem ObjOk.lt(x:ObjOk P w H h a o):a<h.objs.size:=by
 cases o with
 |lst xs=>obtain⟨_,_,_,_,e⟩:=x;exact Qi e
 |tup xs=>obtain⟨_,_,_,p⟩:=x;exact p.lt
 |dK kvs=>obtain⟨_,_,_,_,o,_,_,e,_⟩:=x;exact Qi e
 |dT kvs=>obtain⟨_,_,_,_,o,_,_,e,_⟩:=x;exact Qi e
 |set S n=>obtain⟨o,_,_,_,e,_⟩:=x;exact Qi e
 |ins C dx fs=>obtain⟨_,_,_,e,_⟩:=x;exact Qi e
 |own y=>obtain⟨_,e⟩:=x;exact Qi e
 |xd fs=>obtain⟨_,⟨_,_,_,e,_⟩,_⟩:=x;exact Qi e
 |rng lo hi=>obtain⟨_,_,_,e⟩:=x;exact Qi e
 |frz ob u=>obtain⟨e,_⟩:=x;exact Qi e
 |tbl ps=>obtain⟨_,e,_⟩:=x;exact Qi e
 |met f y=>exact Qi (show h.get? a=some _ from x)
 |ext φ=>obtain⟨_,⟨_,e⟩,_⟩:=x;exact Qi e
theorem ZQ.mapP{α β:Type}{F G:α->β->Prop}:∀{l₁:List α}{l₂:List β},ZQ F l₁ l₂->(∀a b,F a b->G a b)->ZQ G l₁ l₂
 |_,_,.nil,_=>.nil
 |_,_,.cons r t,f=>.cons (f _ _ r) (ZQ.mapP t f)
theorem ObjOk.stay(x:ObjOk P w H h a o)(k:∀b u,(b=a∨H b=some (.own a))->h.get? b=some u->h'.get? b=some u)
  (ho:∀b,H b=some (.own a)->H' b=some (.own a))(ht:∀b xs,H b=some (.tup xs)->H' b=some (.tup xs))(hz:∀b z u,H b=some (.frz z u)->H' b=some (.frz z u):=by exact λ_ _ _ q=>q):ObjOk P w H' h' a o:=by
 induction o with
 |lst xs=>obtain⟨z,its,n,r,e⟩:=x;exact⟨z,its,n,r,k _ _ (.inl rfl) e⟩
 |tup xs=>obtain⟨z,its,r,ob,e,c⟩:=x;exact⟨z,its,r,ob,k _ _ (.inl rfl) e,c⟩
 |dK kvs=>obtain⟨z,y,vs,r,ob,es,ep,e,c⟩:=x;exact⟨z,y,vs,r,ob,es,ep,k _ _ (.inl rfl) e,c⟩
 |dT kvs=>
  obtain⟨z,y,xs,r,ob,es,ep,e,c⟩:=x;exact⟨z,y,xs,ZQ.mapP r λp q z=>⟨z.1,ht _ _ z.2.1,z.2.2⟩,ob,es,ep,k _ _ (.inl rfl) e,c⟩
 |set S n=>obtain⟨ob,es,ep,t,e,c⟩:=x;exact⟨ob,es,ep,t,k _ _ (.inl rfl) e,c⟩
 |ins C dx fs=>
  obtain⟨d,z,ne,e,mA,⟨od,es,ep,e2,c⟩,r⟩:=x;exact⟨ho _ d,z,ne,k _ _ (.inl rfl) e,mA,⟨od,es,ep,k _ _ (.inr d) e2,c⟩,r⟩
 |own y=>obtain⟨ob,e⟩:=x;exact⟨ob,k _ _ (.inl rfl) e⟩
 |xd fs=>obtain⟨mA,⟨od,es,ep,e,c⟩,r⟩:=x;exact⟨mA,⟨od,es,ep,k _ _ (.inl rfl) e,c⟩,r⟩
 |rng lo hi=>obtain⟨t,u,v,e⟩:=x;exact⟨t,u,v,k _ _ (.inl rfl) e⟩
 |frz ob u ih=>obtain⟨e,q⟩:=x;exact⟨k _ _ (.inl rfl) e,ih q⟩
 |tbl ps=>obtain⟨qs,e,t,f⟩:=x;exact⟨qs,k a _ (.inl rfl) e,t,λpos v q=>let ⟨c,oc,vs,tt,e1,e2,e3⟩:=f pos v q;⟨c,oc,vs,tt,e1,hz _ _ _ e2,e3⟩⟩
 |met f y=>
  have e:h.get? a=some (PySem.W.methodObj (.ref f) (.ref y)):=x;show h'.get? a=some (PySem.W.methodObj (.ref f) (.ref y));exact k a _ (.inl rfl) e
 |ext φ=>obtain⟨p,⟨o,e⟩,st⟩:=x;exact⟨st _ _ p λo q=>k _ _ (.inl rfl) q,⟨o,k _ _ (.inl rfl) e⟩,st⟩
theorem HOk.lt(x:HOk P w H h)(e:H a=some o):a<h.objs.size:=(x a o e).lt
theorem HOk.fresh(x:HOk P w H h)(e:h.objs.size<=a):H a=none:=by
 cases q:H a with
 |none=>rfl
 |some u=>exact absurd (Qt (x.lt q) e) (ZL _)
theorem HOk.kept(x:HOk P w H h)(k:∀b u,h.get? b=some u->h'.get? b=some u):HOk P w H h':=λa o e=>
 (x a o e).stay (λb u _ q=>k b u q) (λ_ q=>q) λ_ _ q=>q
theorem HOk.laid(x:HOk P w H h)(k:∀b u,h.get? b=some u->h'.get? b=some u)(hp:h.objs.size<=a)(new:ObjOk P w (upd H a o) h' a o):HOk P w (upd H a o) h':=λb u e=>by
 have hn:=x.fresh hp;by_cases hb:b=a
 ·subst hb;rw[Jc] at e;cases e;exact new
 ·rw[Jb hb] at e;exact(x b u e).stay (λc v _ q=>k c v q) (λc q=>by rw[Jb (JK q hn)];exact q) (λc xs q=>by rw[Jb (JK q hn)];exact q) λc z u q=>by rw[Jb (JK q hn)];exact q
end
def Rd(H:Hp)(a:Addr)(u:HO):Prop:=H a=some u∨∃o,H a=some (.frz o u)
theorem Rd.ok{P:QD}{w:Je}{H:Hp}{h:JM}{a:Addr}{u:HO}(r:Rd H a u)(x:HOk P w H h):ObjOk P w H h a u:=by
 rcases r with r | ⟨o,r⟩
 ·exact x a u r
 ·obtain⟨_,q⟩:=x a _ r;exact q
def Mut:Option HO->Prop
 |some (.lst _)=>True
 |some (.dK _)=>True
 |some (.dT _)=>True
 |some (.set _ _)=>True
 |some (.ins _ _ _)=>True
 |some (.ext _)=>True
 |_=>False
section
variable{P:QD}{w:Je}{H:Hp}{h h':JM}{x e:Addr}{o':HO}
theorem HOk.write(ok:HOk P w H h)(mu:Mut (H x))(he:e=x∨H e=some (.own x))(k:∀b u,b≠e->h.get? b=some u->h'.get? b=some u)(heo:∃u,h'.get? e=some u)
  (new:ObjOk P w (upd H x o') h' x o'):HOk P w (upd H x o') h':=λb u q=>by
 have nown:∀c y,H c=some (.own y)->c≠x:=λc y r z=>by subst z;rw[r] at mu;exact mu
 have ntup:∀c xs,H c=some (.tup xs)->c≠x:=λc xs r z=>by subst z;rw[r] at mu;exact mu
 have nfrz:∀c z u,H c=some (.frz z u)->c≠x:=λc z u r y=>by subst y;rw[r] at mu;exact mu
 by_cases hb:b=x
 ·subst hb;rw[Jc] at q;cases q;exact new
 ·rw[Jb hb] at q;by_cases hbe:b=e
  ·have q':H b=some (.own x):=by
    rcases he with z | z
    ·exact absurd (hbe.trans z) hb
    ·rw[hbe];exact z
   rw[q] at q';cases q';obtain⟨v,hv⟩:=heo;exact⟨v,by rw[hbe];exact hv⟩
  ·refine(ok b u q).stay (λc v hc r=>k c v ?_ r) (λc r=>by rw[Jb (nown c b r)];exact r) (λc xs r=>by rw[Jb (ntup c xs r)];exact r) λc z u r=>by rw[Jb (nfrz c z u r)];exact r
   rcases hc with rfl | hc
   ·exact hbe
   ·rintro rfl;rcases he with z | z
    ·exact nown c b hc z
    ·rw[hc] at z;cases z;exact hb rfl
end
structure Un (fs ex:List Addr) (H H':Hp) (h h':JM):Prop where
 keep:∀b o,h.get? b=some o->H b=none->b∉fs->b∉ex->h'.get? b=some o
 slot:∀b o,h.get? b=some o->H b=none->b∈fs->b∉ex->∃sl,h'.get? b=some { o with slots:=sl }
 free:∀b o,h.get? b=some o->H b=none->b∉ex->H' b=none
 there:∀b o,h.get? b=some o->b∉ex->∃o',h'.get? b=some o'
 tups:∀b xs,H b=some (.tup xs)->H' b=some (.tup xs)
 frzs:∀b o u,H b=some (.frz o u)->H' b=some (.frz o u)
 tbls:∀b ps,H b=some (.tbl ps)->∃more,H' b=some (.tbl (ps++more))
section
variable{fs fs' ex ex':List Addr}{H H1 H2:Hp}{h h1 h2 h':JM}{a x e:Addr}{o:HO}
theorem Un.any(u:Un fs ex H H1 h h1){b:Addr}{ob:Obj}(q:h.get? b=some ob)(n:H b=none)(hx:b∉ex):∃sl,h1.get? b=some { ob with slots:=sl }:=by
 by_cases hb:b∈fs
 ·exact u.slot b ob q n hb hx
 ·exact⟨ob.slots,u.keep b ob q n hb hx⟩
theorem Un.kept(k:∀b u,h.get? b=some u->h'.get? b=some u):Un fs ex H H h h':=
 ⟨λb ob q _ _ _=>k b ob q,λb ob q _ _ _=>⟨ob.slots,k b ob q⟩,λ_ _ _ n _=>n,λb ob q _=>⟨ob,k b ob q⟩,λ_ _ q=>q,λ_ _ _ q=>q,λ_ ps q=>⟨#[],by rw[q];simp⟩⟩
theorem Un.refl:Un fs ex H H h h:=Un.kept λ_ _ q=>q
theorem Un.laid(k:∀b u,h.get? b=some u->h'.get? b=some u)(hp:h.objs.size<=a)(hn:H a=none):Un fs ex H (upd H a o) h h' where
 keep:=λb u q _ _ _=>k b u q
 slot:=λb u q _ _ _=>⟨u.slots,k b u q⟩
 free:=λb u q n _=>by rw[Jb (Qs (Qt (Qi q) hp))];exact n
 there:=λb u q _=>⟨u,k b u q⟩
 tups:=λb xs q=>by rw[Jb (JK q hn)];exact q
 frzs:=λb u xs q=>by rw[Jb (JK q hn)];exact q
 tbls:=λb ps q=>⟨#[],by rw[Jb (JK q hn),q];simp⟩
theorem Un.write(mu:Mut (H x))(he:e=x∨H e=some (.own x))(k:∀b u,b≠e->h.get? b=some u->h'.get? b=some u)(heo:∃u,h'.get? e=some u):Un fs ex H (upd H x o) h h':=by
 have hx:∀b,H b=none->b≠x:=λb n z=>by subst z;rw[n] at mu;exact mu
 have hb:∀b,H b=none->b≠e:=λb n z=>by
  subst z;rcases he with r | r
  ·exact hx b n r
  ·rw[n] at r;cases r
 have hm:∀b u,H b=some u->¬Mut (some u)->b≠x:=λb u q nm z=>by subst z;rw[q] at mu;exact nm mu
 refine⟨λb u q n _ _=>k b u (hb b n) q,λb u q n _ _=>⟨u.slots,k b u (hb b n) q⟩,λb u q n _=>by rw[Jb (hx b n)];exact n,λb u q _=>?_,
  λb xs q=>by rw[Jb (hm b _ q λz=>z)];exact q,λb u xs q=>by rw[Jb (hm b _ q λz=>z)];exact q,λb ps q=>⟨#[],by rw[Jb (hm b _ q λz=>z),q];simp⟩⟩
 by_cases hbe:b=e
 ·subst hbe;exact heo
 ·exact⟨u,k b u hbe q⟩
end
def trk(h:JM)(H:Hp):List Addr:=(Q9 h.objs.size).filter λa=>(H a).isSome
def Qkr(h:JM)(H:Hp):JM:=PySem.W.hideAll h (trk h H)
theorem Qkq(h:JM)(H:Hp):(Qkr h H).objs.size=h.objs.size:=PySem.W.hideAll_size _ _
theorem Qm8{h:JM}{H:Hp}{b:Addr}{o:Obj}(e:h.get? b=some o)(n:H b=none):(Qkr h H).get? b=some o:=
 PySem.W.hideAll_get _ e λhm=>by
  have q:(H b).isSome=true:=(JJ.mp hm).2;rw[n] at q;simp at q
theorem QpQ{h:JM}{H:Hp}{b:Addr}{o:Obj}(e:(Qkr h H).get? b=some o):h.get? b=some o/\H b=none:=by
 have e':h.get? b=some o:=PySem.W.of_hideAll (trk h H) e;refine⟨e',?_⟩;cases q:H b with
 |none=>rfl
 |some x=>
  have hm:b∈trk h H:=JJ.mpr ⟨JI.mpr (Qi e'),by simp[q]⟩;have z:(Qkr h H).get? b=none:=PySem.W.hideAll_none (trk h H) hm;rw[z] at e;cases e
def QrF(g h:JM)(L:Addr):List (Addr×Obj):=(Q9 h.objs.size).filterMap λa=>if a=L∨(g.get? a).isSome=true then none else(h.get? a).map λo=>(a,o)
def rest(g h:JM)(L d:Addr):List (Addr×Obj):=(QrF g h L).filter λp=>decide (p.1≠d)
structure Mod (K:PySem.W.Frag) (mg:Str->Option Value) (base:JM):Prop where
 kin:K.In base
 glob:base.Ns mainGlobals mg
 blt:∃mb,base.Ns builtinsNs mb/\∀x:Str,x ≠ "__name__" -> mb x=bootBuiltins x
 nolimit:base.NoLimit
structure Cx where
 prog:QD
 w:Je
 K:PySem.W.Frag
 mg:Str->Option Value
 base:JM
 A:Q5
 N:List Str
 s₀:Shared
 H₀:Hp
 env:Env
 outer:List Env
 stack:List Env
 ex:List Addr
 fn:Str->Bool
 calm:Bool
 pn:List (Addr×Obj)
 xe:Value->Shared->Prop
def frs(l:List Env):List Addr:=l.filterMap (·.frame)
abbrev Cx.fs (X:Cx):List Addr:=frs X.outer
def Vis(sc:ZK)(x:Str):Prop:=sc.names.lookup x=some .local∨sc.names.lookup x=some .cell∨sc.names.lookup x=some .free
def Loc(sc:ZK)(x:Str):Prop:=sc.names.lookup x=some .local∨sc.names.lookup x=some .cell
def Look(env:Env)(h:JM)(m:Str->Option Value)(x:Str)(u:Value):Prop:=
 (env.kindOf x=some .local/\m x=some u)∨((env.kindOf x=some .cell∨env.kindOf x=some .free)/\∃c,env.cells.lookup x=some c/\h.IsCell c (some u))
structure Cx.Ok (X:Cx):Prop where
 mod:Mod X.K X.mg X.base
 kind:X.env.scope.kind=.function
 glob:X.env.globals=mainGlobals
 blt:X.env.builtins=builtinsNs
 above:X.s₀.heap.objs.size<=X.env.locals
 inj:∀x y c,X.env.cells.lookup x=some c->X.env.cells.lookup y=some c->x=y
 has:∀x,(X.env.kindOf x=some .cell∨X.env.kindOf x=some .free)->∃c,X.env.cells.lookup x=some c
 cab:∀x c,X.fn x=true->X.env.cells.lookup x=some c->X.s₀.heap.objs.size<=c
 hd:X.calm=true->X.A.handled=none
 frames:X.A.frames=some X.stack
 stk:X.stack=X.outer∨(X.stack=X.env::X.outer/\X.env.frame=some X.env.locals)
 exf:∀b∈X.ex,b≠X.env.locals/\∀x c,X.env.cells.lookup x=some c->c≠b
 bs:∀b o,X.base.get? b=some o->X.s₀.heap.get? b=some o/\X.H₀ b=none
 bsz:X.base.objs.size<=X.s₀.heap.objs.size
 noex:∀b o,X.base.get? b=some o->b∉X.ex
 exfs:∀b∈X.ex,b∉X.fs
 funs:X.s₀.heap.FunFrames X.base X.outer
 frf:∀b∈X.fs,X.H₀ b=none
structure Inv (X:Cx) (pins:List (Addr×Obj)) (σ:List (Option V)) (H:Hp) (s:Shared):Prop where
 ok:X.Ok
 os:s.os=X.s₀.os
 bare:Qcn s.gens
 base:Un X.fs X.ex X.H₀ H X.s₀.heap s.heap
 loc:∃m,s.heap.Ns X.env.locals m/\∀(i:Nat)(x:Str)(v:V),X.N[i]? = some x->σ[i]? = some (some v)->Vis X.env.scope x->∃u,RelV v u/\Look X.env s.heap m x u
 cell:∀x c,X.env.cells.lookup x=some c->∃v,s.heap.IsCell c v
 free:H X.env.locals=none
 freeC:∀x c,X.env.cells.lookup x=some c->H c=none
 pin:∀p∈X.pn++pins,s.heap.get? p.1=some p.2/\H p.1=none/\p.1≠X.env.locals/\p.1∉X.fs/\∀v,p.2.data≠.cell v
 hok:HOk X.prog X.w H s.heap
 len:σ.length=X.N.length
section
variable{X:Cx}{pins:List (Addr×Obj)}{σ:List (Option V)}{H H':Hp}{s:Shared}{h':JM}
theorem Cx.Ok.nofr(ok:X.Ok){b:Addr}{o:Obj}(e:X.base.get? b=some o):b∉X.fs:=λhb=>by
 have:=(ok.funs.mem hb).1;rw[e] at this;cases this
theorem Inv.bs(I:Inv X pins σ H s):∀b o,X.base.get? b=some o->s.heap.get? b=some o/\H b=none:=λb o e=>
 ⟨I.base.keep b o (I.ok.bs b o e).1 (I.ok.bs b o e).2 (I.ok.nofr e) (I.ok.noex b o e),I.base.free b o (I.ok.bs b o e).1 (I.ok.bs b o e).2 (I.ok.noex b o e)⟩
theorem Inv.bk(I:Inv X pins σ H s):∀b o,X.base.get? b=some o->s.heap.get? b=some o:=λb o e=>(I.bs b o e).1
theorem Inv.mod(I:Inv X pins σ H s):Mod X.K X.mg X.base:=I.ok.mod
theorem Inv.kIn(I:Inv X pins σ H s):X.K.In s.heap:=I.ok.mod.kin.keeps I.bk
theorem Inv.fr(I:Inv X pins σ H s):∃m,Fr X.base X.env.locals s.heap m:=
 let ⟨m,hn,_⟩:=I.loc
 ⟨m,hn,I.bk,QQ I.ok.bsz I.ok.above⟩
theorem Inv.lt(I:Inv X pins σ H s):X.env.locals<s.heap.objs.size:=let ⟨_,hn,_⟩:=I.loc;hn.lt
theorem Inv.sz(I:Inv X pins σ H s):X.s₀.heap.objs.size<=s.heap.objs.size:=QQ I.ok.above (Ze I.lt)
theorem Inv.nofs(I:Inv X pins σ H s){a:Addr}(h:s.heap.objs.size<=a):a∉X.fs:=λhb=>by
 obtain⟨_,o,ho,_⟩:=I.ok.funs.mem hb;exact absurd (Qt (Qi ho) (QQ I.sz h)) (ZL _)
theorem Inv.cne(I:Inv X pins σ H s):∀x c,X.env.cells.lookup x=some c->c≠X.env.locals:=λx c e z=>by
 obtain⟨v,o,ho,hd⟩:=I.cell x c e;obtain⟨m,⟨o',es,ep,ho',hd',_⟩,_⟩:=I.loc;rw[z,ho'] at ho;cases ho;rw[hd'] at hd;cases hd
theorem Inv.funs(I:Inv X pins σ H s):s.heap.FunFrames X.base X.outer:=by
 have all:∀(l:List Env),(∀b∈frs l,b∈X.fs)->X.s₀.heap.FunFrames X.base l->s.heap.FunFrames X.base l:=by
  intro l;induction l with
  |nil=>intro _ _;trivial
  |cons env r ih=>
   intro hs hl;obtain⟨hk,⟨L,o,hf,hn,ho,hd⟩,hr⟩:=hl;have hL:L∈X.fs:=hs L (by unfold frs;rw[Y0,hf];exact JR);obtain⟨sl,e⟩:=I.base.slot L o ho (I.ok.frf L hL) hL λz=>I.ok.exfs L z hL
   exact⟨hk,⟨L,_,hf,hn,e,hd⟩,ih (λb hb=>hs b (by unfold frs;rw[Y0,hf];exact Jp _ hb)) hr⟩
 exact all X.outer (λ_ hb=>hb) I.ok.funs
theorem Inv.stack(I:Inv X pins σ H s):s.heap.FunFrames X.base X.stack:=by
 rcases I.ok.stk with e | ⟨e,hf⟩
 ·rw[e];exact I.funs
 ·rw[e];obtain⟨m,hn,_⟩:=I.loc;refine .cons (by rw[I.ok.kind];decide) hf hn ?_ I.funs
  exact Heap.get?_none_of_le (QQ I.ok.bsz I.ok.above)
theorem Inv.stkSub(I:Inv X pins σ H s):∀b∈frs X.stack,b∈X.env.locals::X.fs:=λb hb=>by
 rcases I.ok.stk with e | ⟨e,hf⟩
 ·rw[e] at hb;exact Jp _ hb
 ·rw[e] at hb;unfold frs at hb;rw[Y0,hf] at hb;exact hb
theorem Inv.stkFree(I:Inv X pins σ H s):∀b∈frs X.stack,H b=none:=λb hb=>by
 rcases Qx.mp (I.stkSub b hb) with e | hb
 ·rw[e];exact I.free
 ·obtain⟨_,o,ho,_⟩:=I.ok.funs.mem hb;exact I.base.free b o ho (I.ok.frf b hb) λz=>I.ok.exfs b z hb
theorem Inv.step{g':Array GenState}{t':Nat}{d':Drawn}{ch:List Addr}(I:Inv X pins σ H s)
  (hch:∀b∈ch,(b∈X.ex∨X.s₀.heap.objs.size<=b)/\b≠X.env.locals/\(∀x c,X.env.cells.lookup x=some c->c≠b)/\∀p∈X.pn++pins,p.1≠b)
  (keep:∀b o,b≠X.env.locals->b∉X.fs->b∉ch->s.heap.get? b=some o->H b=none->h'.get? b=some o)
  (slot:∀b o,b≠X.env.locals->b∈X.fs->b∉ch->s.heap.get? b=some o->H b=none->∃sl,h'.get? b=some { o with slots:=sl })(free:∀b o,b∉ch->s.heap.get? b=some o->H b=none->H' b=none)
  (there:∀b o,b∉ch->s.heap.get? b=some o->∃o',h'.get? b=some o')
  (tups:∀b xs,H b=some (.tup xs)->H' b=some (.tup xs))(frzs:∀b o u,H b=some (.frz o u)->H' b=some (.frz o u))(tbls:∀b ps,H b=some (.tbl ps)->∃more,H' b=some (.tbl (ps++more)))
  (ns:∀m,s.heap.Ns X.env.locals m->h'.Ns X.env.locals m)(hok:HOk X.prog X.w H' h')(hg:Qcn g') :
  Inv X pins σ H' { s with heap:=h',gens:=g',drawn:=d',toks:=t' }:=by
 have neL:∀b o,X.s₀.heap.get? b=some o->b≠X.env.locals:=λb o e=>Qs (Qt (Qi e) I.ok.above)
 have neC:∀b o,X.s₀.heap.get? b=some o->b∉X.ex->b∉ch:=λb o e hx hb=>by
  rcases(hch b hb).1 with z | z
  ·exact hx z
  ·exact absurd (Qt (Qi e) z) (ZL _)
 have cellK:∀x c,X.env.cells.lookup x=some c->∀v,s.heap.IsCell c v->h'.IsCell c v:=λx c e v ⟨o,ho,hd⟩=>by
  have nch:c∉ch:=λz=>(hch c z).2.2.1 x c e rfl
  by_cases hc:c∈X.fs
  ·obtain⟨sl,q⟩:=slot c o (I.cne x c e) hc nch ho (I.freeC x c e);exact⟨_,q,hd⟩
  ·exact⟨o,keep c o (I.cne x c e) hc nch ho (I.freeC x c e),hd⟩
 refine⟨I.ok,I.os,hg,⟨λb o e n hb hx=>?_,λb o e n hb hx=>?_,λb o e n hx=>?_,λb o e hx=>?_,λb xs e=>tups b xs (I.base.tups b xs e),λb o xs e=>frzs b o xs (I.base.frzs b o xs e),λb ps e=>?_⟩,?_,λx c e=>?_,?_,λx c e=>?_,λp hp=>?_,hok,I.len⟩
 ·exact keep b o (neL b o e) hb (neC b o e hx) (I.base.keep b o e n hb hx) (I.base.free b o e n hx)
 ·obtain⟨sl,e1⟩:=I.base.slot b o e n hb hx;obtain⟨sl',e2⟩:=slot b _ (neL b o e) hb (neC b o e hx) e1 (I.base.free b o e n hx);exact⟨sl',e2⟩
 ·obtain⟨o',e1⟩:=I.base.there b o e hx;exact free b o' (neC b o e hx) e1 (I.base.free b o e n hx)
 ·obtain⟨o',e1⟩:=I.base.there b o e hx;exact there b o' (neC b o e hx) e1
 ·obtain⟨m1,e1⟩:=I.base.tbls b ps e;obtain⟨m2,e2⟩:=tbls b _ e1;exact⟨m1++m2,by rw[e2,Qlh]⟩
 ·obtain⟨m,hn,hl⟩:=I.loc;refine⟨m,ns m hn,λi x v e1 e2 e3=>?_⟩;obtain⟨u,r,l⟩:=hl i x v e1 e2 e3;refine⟨u,r,?_⟩;rcases l with l | ⟨k,c,e,z⟩
  ·exact .inl l
  ·exact .inr ⟨k,c,e,cellK x c e _ z⟩
 ·obtain⟨v,z⟩:=I.cell x c e;exact⟨v,cellK x c e v z⟩
 ·obtain⟨m,⟨o,_,_,ho,_⟩,_⟩:=I.loc;exact free _ o (λz=>(hch _ z).2.1 rfl) ho I.free
 ·obtain⟨v,o,ho,hd⟩:=I.cell x c e;exact free c o (λz=>(hch c z).2.2.1 x c e rfl) ho (I.freeC x c e)
 ·obtain⟨e,n,ne,nf,d⟩:=I.pin p hp;have nch:p.1∉ch:=λz=>(hch p.1 z).2.2.2 p hp rfl
  exact⟨keep p.1 p.2 ne nf nch e n,free p.1 p.2 nch e n,ne,nf,d⟩
theorem Inv.un{t':Nat}(I:Inv X pins σ H s)(u:Un X.fs [] H H' s.heap h')(hok:HOk X.prog X.w H' h'):Inv X pins σ H' { s with heap:=h',toks:=t' }:=by
 obtain⟨m,⟨o,es,ep,ho,r⟩,_⟩:=id I.loc;obtain⟨sl,hL⟩:=u.any ho I.free (by simp);exact I.step (g':=s.gens) (d':=s.drawn) (ch:=[]) (λ_ z=>nomatch z) (λb o _ hb _ e n=>u.keep b o e n hb (by simp)) (λb o _ hb _ e n=>u.slot b o e n hb (by simp)) (λb o _ e n=>u.free b o e n (by simp)) (λb o _ e=>u.there b o e (by simp)) u.tups u.frzs u.tbls (λm' hm=>by
  obtain⟨o',es',ep',ho',r'⟩:=hm;rw[ho] at ho';cases ho';exact⟨_,es',ep',hL,r'⟩) hok I.bare
theorem Inv.call{g':Array GenState}{t':Nat}{d':Drawn}{ch:List Addr}(I:Inv X pins σ H s)(u:Un (frs X.stack) ch H H' s.heap h')(hok:HOk X.prog X.w H' h')(hg:Qcn g')
  (hch:∀b∈ch,(b∈X.ex∨X.s₀.heap.objs.size<=b)/\b≠X.env.locals/\(∀x c,X.env.cells.lookup x=some c->c≠b)/\∀p∈X.pn++pins,p.1≠b) :
  Inv X pins σ H' { s with heap:=h',gens:=g',drawn:=d',toks:=t' }:=by
 obtain⟨m,⟨o,es,ep,ho,r⟩,_⟩:=id I.loc;obtain⟨sl,hL⟩:=u.any ho I.free λz=>(hch _ z).2.1 rfl
 exact I.step (ch:=ch) hch (λb o hL hb hc e n=>u.keep b o e n (λz=>(Qx.mp (I.stkSub b z)).elim hL hb) hc) (λb o _ _ hc e n=>u.any e n hc) (λb o hc e n=>u.free b o e n hc) (λb o hc e=>u.there b o e hc) u.tups u.frzs u.tbls (λm' hm=>by
  obtain⟨o',es',ep',ho',r'⟩:=hm;rw[ho] at ho';cases ho';exact⟨_,es',ep',hL,r'⟩) hok hg
theorem Inv.turned{t':Nat}{it:Addr}(I:Inv X pins σ H s)(k:∀b o,b≠it->s.heap.get? b=some o->h'.get? b=some o)(hn:H it=none)(hL:it≠X.env.locals)
  (h1:it∈X.ex∨X.s₀.heap.objs.size<=it)(h2:∀x c,X.env.cells.lookup x=some c->c≠it)(h3:∀p∈X.pn++pins,p.1≠it):Inv X pins σ H { s with heap:=h',toks:=t' }:=by
 have nit:∀b u,H b=some u->b≠it:=λb u e z=>by rw[z,hn] at e;cases e
 refine I.step (g':=s.gens) (d':=s.drawn) (ch:=[it]) (λb hb=>?_) (λb o _ _ hc e _=>k b o (λz=>hc (by simp[z])) e) (λb o _ _ hc e _=>⟨o.slots,k b o (λz=>hc (by simp[z])) e⟩) (λ_ _ _ _ n=>n)
  (λb o hc e=>⟨o,k b o (λz=>hc (by simp[z])) e⟩) (λ_ _ e=>e) (λ_ _ _ e=>e) (λb ps e=>⟨#[],by rw[e];simp⟩) (λm hm=>?_) (λb u e=>?_) I.bare
 ·have e:b=it:=by simpa using hb
  subst e;exact⟨h1,hL,h2,h3⟩
 ·obtain⟨o,es,ep,ho,r⟩:=hm;exact⟨o,es,ep,k _ o (Qaz hL) ho,r⟩
 ·refine(I.hok b u e).stay (λc v hc q=>k c v ?_ q) (λ_ q=>q) λ_ _ q=>q
  rcases hc with z | z
  ·rw[z];exact nit b u e
  ·exact nit c _ z
theorem Inv.tok(I:Inv X pins σ H s)(t:Nat):Inv X pins σ H { s with toks:=t }:=I.un (h':=s.heap) (t':=t) Un.refl I.hok
theorem Inv.kept{t':Nat}(I:Inv X pins σ H s)(k:∀b u,s.heap.get? b=some u->h'.get? b=some u):Inv X pins σ H { s with heap:=h',toks:=t' }:=I.un (Un.kept k) (I.hok.kept k)
theorem Inv.laid{a:Addr}{o:HO}{t':Nat}(I:Inv X pins σ H s)(k:∀b u,s.heap.get? b=some u->h'.get? b=some u)(hp:s.heap.objs.size<=a)(new:ObjOk X.prog X.w (upd H a o) h' a o) :
  Inv X pins σ (upd H a o) { s with heap:=h',toks:=t' }:=I.un (Un.laid k hp (I.hok.fresh hp)) (I.hok.laid k hp new)
theorem Inv.write{x e:Addr}{o:HO}{t':Nat}(I:Inv X pins σ H s)(mu:Mut (H x))(he:e=x∨H e=some (.own x))(k:∀b u,b≠e->s.heap.get? b=some u->h'.get? b=some u)(heo:∃u,h'.get? e=some u)
  (new:ObjOk X.prog X.w (upd H x o) h' x o):Inv X pins σ (upd H x o) { s with heap:=h',toks:=t' }:=I.un (Un.write mu he k heo) (I.hok.write mu he k heo new)
theorem Inv.weak{σ':List (Option V)}(I:Inv X pins σ H s)(hl:σ'.length=σ.length)(w:∀(i:Nat) v,σ'[i]? = some (some v)->σ[i]? = some (some v)):Inv X pins σ' H s:=
 ⟨I.ok,I.os,I.bare,I.base,let ⟨m,hn,hl'⟩:=I.loc;⟨m,hn,λi x v e1 e2 e3=>hl' i x v e1 (w i v e2) e3⟩,I.cell,I.free,I.freeC,I.pin,I.hok,hl.trans I.len⟩
theorem Inv.pins_of{pins':List (Addr×Obj)}(I:Inv X pins σ H s)(h:∀p∈pins',s.heap.get? p.1=some p.2/\H p.1=none/\p.1≠X.env.locals/\p.1∉X.fs/\∀v,p.2.data≠.cell v):Inv X pins' σ H s:=
 ⟨I.ok,I.os,I.bare,I.base,I.loc,I.cell,I.free,I.freeC,λp hp=>(JY.mp hp).elim (λz=>I.pin p (QbG _ z)) (h p),I.hok,I.len⟩
theorem Qer{N:List Str}(hN:N.Nodup){i j:Nat}{x:Str}(a:N[i]? = some x)(b:N[j]? = some x):i=j:=by
 obtain⟨h1,e1⟩:=Qw.mp a;obtain⟨h2,e2⟩:=Qw.mp b;exact(List.getElem_inj hN).mp (e1.trans e2.symm)
theorem Qe3{M:QiG}{A:Q5}{E:Value->Shared->Prop}{i:Nat}{x:Str}{v:V}{u:Value}{Q:Unit->Shared->Prop}(I:Inv X pins σ H s)(hN:X.N.Nodup)(hi:X.N[i]? = some x)(hx:Loc X.env.scope x)(r:RelV v u)
  (h:∀s',Inv X pins (σ.set i (some v)) H s'->(∃a,Qac a s.heap s'.heap/\(a=X.env.locals∨X.env.cells.lookup x=some a))->Q () s')(hf:X.fn x=true∨X.env.scope.names.lookup x=some .local:=by first | exact .inl rfl | exact .inr rfl | assumption):wpAny M A (storeName X.env x u) Q E s:=by
 obtain⟨m,hn,hl⟩:=id I.loc;have hcls:(X.env.scope.kind == .class||(X.env.scope.kind == .module&&X.env.locals != X.env.globals))=false:=by rw[I.ok.kind];rfl
 have hiσ:i < σ.length:=by rw[I.len];exact(Qw.mp hi).1
 have cne:=I.cne;have tracked:∀{a:Addr}{h':JM},(∃o,s.heap.get? a=some o/\H a=none)->Qac a s.heap h'->HOk X.prog X.w H h':=λ{a h'} ha hs b ob e=>by
  obtain⟨_,_,hfree⟩:=ha;refine(I.hok b ob e).stay (λc w' hc q=>(hs.2 c ?_).trans q) (λ_ q=>q) λ_ _ q=>q
  rintro rfl;rcases hc with rfl | hc
  ·rw[hfree] at e;cases e
  ·rw[hfree] at hc;cases hc
 rcases hx with hk | hk
 ·refine wpAny_storeName_local hk hn (λh' hn' hs=>?_) hcls;obtain⟨oL,_,_,hoL,_⟩:=id hn;refine h _ ⟨I.ok,I.os,I.bare,⟨λb o e n hb hx=>?_,λb o e n hb hx=>?_,I.base.free,λb o e hx=>?_,I.base.tups,I.base.frzs,I.base.tbls⟩,⟨_,hn',λj y v' e1 e2 e3=>?_⟩,λy c e=>?_,I.free,I.freeC,λp hp=>?_,tracked ⟨oL,hoL,I.free⟩ hs,by simpa using I.len⟩ ⟨_,hs,.inl rfl⟩
  ·exact(hs.2 b (Qs (Qt (Qi e) I.ok.above))).trans (I.base.keep b o e n hb hx)
  ·obtain⟨sl,e1⟩:=I.base.slot b o e n hb hx;exact⟨sl,(hs.2 b (Qs (Qt (Qi e) I.ok.above))).trans e1⟩
  ·obtain⟨o',e1⟩:=I.base.there b o e hx;exact⟨o',(hs.2 b (Qs (Qt (Qi e) I.ok.above))).trans e1⟩
  ·by_cases hj:j=i
   ·subst hj;rw[hi] at e1;cases e1;rw[Yq hiσ] at e2;cases e2;exact⟨u,r,.inl ⟨hk,by simp⟩⟩
   ·rw[YK (Qaz hj)] at e2;obtain⟨u',r',q⟩:=hl j y v' e1 e2 e3;refine⟨u',r',?_⟩;rcases q with⟨k,e⟩ | ⟨k,c,e,z⟩
    ·refine .inl ⟨k,?_⟩;have:y≠x:=λe=>hj (Qer hN e1 (e ▸ hi))
     simp[this,e]
    ·exact .inr ⟨k,c,e,z.sameBut hs (cne y c e)⟩
  ·obtain⟨w',z⟩:=I.cell y c e;exact⟨w',z.sameBut hs (cne y c e)⟩
  ·obtain⟨e,n,ne,nf,d⟩:=I.pin p hp;exact⟨(hs.2 p.1 ne).trans e,n,ne,nf,d⟩
 ·have hfn:X.fn x=true:=by
   rcases hf with z | z
   ·exact z
   ·rw[z] at hk;cases hk
  obtain⟨c,hc⟩:=I.ok.has x (.inl hk);obtain⟨w',z⟩:=I.cell x c hc;refine wpAny_storeName_cell I.ok.kind hk hc z (λh' hc' hs=>?_);obtain⟨oc,hoc,hocd⟩:=id z;refine h { s with heap:=h' } ⟨I.ok,I.os,I.bare,⟨λb o e n hb hx=>?_,λb o e n hb hx=>?_,I.base.free,λb o e hx=>?_,I.base.tups,I.base.frzs,I.base.tbls⟩,⟨m,hn.sameBut hs (Qaz (cne x c hc)),λj y v' e1 e2 e3=>?_⟩,λy c' e=>?_,I.free,I.freeC,λp hp=>?_,tracked ⟨oc,hoc,I.freeC x c hc⟩ hs,by simpa using I.len⟩ ⟨c,hs,.inr hc⟩
  ·exact(hs.2 b (Qs (Qt (Qi e) (I.ok.cab x c hfn hc)))).trans (I.base.keep b o e n hb hx)
  ·obtain⟨sl,e1⟩:=I.base.slot b o e n hb hx;exact⟨sl,(hs.2 b (Qs (Qt (Qi e) (I.ok.cab x c hfn hc)))).trans e1⟩
  ·obtain⟨o',e1⟩:=I.base.there b o e hx;exact⟨o',(hs.2 b (Qs (Qt (Qi e) (I.ok.cab x c hfn hc)))).trans e1⟩
  ·by_cases hj:j=i
   ·subst hj;rw[hi] at e1;cases e1;rw[Yq hiσ] at e2;cases e2;exact⟨u,r,.inr ⟨.inl hk,c,hc,hc'⟩⟩
   ·rw[YK (Qaz hj)] at e2;obtain⟨u',r',q⟩:=hl j y v' e1 e2 e3;refine⟨u',r',?_⟩;rcases q with q | ⟨k,c',e,z'⟩
    ·exact .inl q
    ·refine .inr ⟨k,c',e,z'.sameBut hs ?_⟩;rintro rfl;exact hj (Qer hN e1 (I.ok.inj _ _ _ e hc ▸ hi))
  ·by_cases hcc:c'=c
   ·subst hcc;exact⟨_,hc'⟩
   ·obtain⟨w2,z2⟩:=I.cell y c' e;exact⟨w2,z2.sameBut hs hcc⟩
  ·obtain⟨e,n,ne,nf,d⟩:=I.pin p hp;refine⟨(hs.2 p.1 ?_).trans e,n,ne,nf,d⟩;intro q;rw[q,hoc] at e;have q':oc=p.2:=Qq e;exact d w' (by rw[<- q'];exact hocd)
theorem Qee{M:QiG}{A:Q5}{E:Value->Shared->Prop}{i:Nat}{x:Str}{v:V}{u:Value}{Q:Unit->Shared->Prop}(I:Inv X pins σ H s)(hN:X.N.Nodup)(hi:X.N[i]? = some x)(hx:Loc X.env.scope x)(r:RelV v u)
  (h:∀s',Inv X pins (σ.set i (some v)) H s'->Q () s')(hf:X.fn x=true∨X.env.scope.names.lookup x=some .local:=by first | exact .inl rfl | exact .inr rfl | assumption):wpAny M A (storeName X.env x u) Q E s:=
 Qe3 I hN hi hx r (λs' I' _=>h s' I') hf
theorem Inv.call'{s':Shared}{ch:List Addr}(I:Inv X pins σ H s)(ho:s'.os=s.os)(u:Un (frs X.stack) ch H H' s.heap s'.heap)(hok:HOk X.prog X.w H' s'.heap)(hg:Qcn s'.gens)
  (hch:∀b∈ch,(b∈X.ex∨X.s₀.heap.objs.size<=b)/\b≠X.env.locals/\(∀x c,X.env.cells.lookup x=some c->c≠b)/\∀p∈X.pn++pins,p.1≠b):Inv X pins σ H' s':=by
 obtain⟨h',g',d',t',o'⟩:=s';have e:o'=s.os:=ho;subst e;exact I.call (g':=g') (t':=t') (d':=d') u hok hg hch
end
abbrev XK:=Value->Option Addr->Hp->Prop
abbrev St:=List (Option V)
abbrev VK:=V->Hp->Prop
abbrev TE:=St->Hp->VK->Prop
abbrev TT:=St->Hp->(Bool->Hp->Prop)->Prop
abbrev TA:=St->Hp->(List V->Hp->Prop)->Prop
structure Ends where
 nx:St->Hp->Prop
 rt:VK
 bk:St->Hp->Prop:=λ_ _=>False
 ct:St->Hp->Prop:=λ_ _=>False
abbrev TS:=Ends->St->Hp->Prop
def EP(X:Cx)(pins:List (Addr×Obj))(σ:St)(Q:VK)(u:Value)(s':Shared):Prop:=∃v H',Inv X pins σ H' s'/\RelV v u/\Q v H'
def TP(X:Cx)(pins:List (Addr×Obj))(σ:St)(Q:Bool->Hp->Prop)(b:Bool)(s':Shared):Prop:=∃H',Inv X pins σ H' s'/\Q b H'
def AP(X:Cx)(pins:List (Addr×Obj))(σ:St)(Q:List V->Hp->Prop)(us:List Value)(s':Shared):Prop:=∃vs H',Inv X pins σ H' s'/\Vals vs us/\Q vs H'
def SP(X:Cx)(pins:List (Addr×Obj))(D:Ends)(f:Flow)(s':Shared):Prop:=
 match f with
 |.next=>∃σ' H',Inv X pins σ' H' s'/\D.nx σ' H'
 |.brk=>∃σ' H',Inv X pins σ' H' s'/\D.bk σ' H'
 |.cont=>∃σ' H',Inv X pins σ' H' s'/\D.ct σ' H'
 |.ret u=>∃v σ' H',Inv X pins σ' H' s'/\RelV v u/\D.rt v H'
def PE(X:Cx)(e:QL)(t:TE):Prop:=
 ∀(pins:List (Addr×Obj))(s:Shared)(σ:St)(H:Hp)(Q:VK),Inv X pins σ H s->t σ H Q->wpAny (model X.prog X.w) X.A (eval e X.env) (EP X pins σ Q) X.xe s
def PT(X:Cx)(e:QL)(t:TT):Prop:=
 ∀(pins:List (Addr×Obj))(s:Shared)(σ:St)(H:Hp)(Q:Bool->Hp->Prop),Inv X pins σ H s->t σ H Q->wpAny (model X.prog X.w) X.A (isTrue e X.env (eval e X.env)) (TP X pins σ Q) X.xe s
def PW(X:Cx)(e:QL)(t:TT):Prop:=
 ∀(whole:Sem Value)(pins:List (Addr×Obj))(s:Shared)(σ:St)(H:Hp)(Q:Bool->Hp->Prop),Inv X pins σ H s->t σ H Q->wpAny (model X.prog X.w) X.A (isTrue e X.env whole) (TP X pins σ Q) X.xe s
theorem PW.pt{X:Cx}{e:QL}{t:TT}(h:PW X e t):PT X e t:=h _
def PA(X:Cx)(es:List QL)(t:TA):Prop:=
 ∀(pos:Pos)(pins:List (Addr×Obj))(s:Shared)(σ:St)(H:Hp)(Q:List V->Hp->Prop),Inv X pins σ H s->t σ H Q->wpAny (model X.prog X.w) X.A (spliced (backTo pos (starEach es X.env))) (AP X pins σ Q) X.xe s
def PS(X:Cx)(st:ZA)(t:TS):Prop:=
 ∀(pins:List (Addr×Obj))(s:Shared)(σ:St)(H:Hp)(D:Ends),Inv X pins σ H s->t D σ H->wpAny (model X.prog X.w) X.A (exec st X.env) (SP X pins D) X.xe s
def PSs(X:Cx)(st:List ZA)(t:TS):Prop:=
 ∀(pins:List (Addr×Obj))(s:Shared)(σ:St)(H:Hp)(D:Ends),Inv X pins σ H s->t D σ H->wpAny (model X.prog X.w) X.A (execs st X.env) (SP X pins D) X.xe s
theorem thn{α:Type}{t:Sem α}{Q Q':α->Shared->Prop}{M:QiG}{A:Q5}{E:Value->Shared->Prop}{s:Shared}(h:wpAny M A t Q E s)(hQ:∀a s,Q a s->Q' a s):wpAny M A t Q' E s:=wpAny_mono h hQ λ_ _ x=>x
section
variable{X:Cx}
def Qiu(i:Nat):TE:=λσ H Q=>∃v,σ[i]? = some (some v)/\Q v H
def tC(v:V):TE:=λ_ H Q=>Q v H
theorem QgV{i:Nat}{x:Str}{pos:Pos}(hN:X.N[i]? = some x)(hv:Vis X.env.scope x)(hd:(x == ("__debug__" : Str))=false:=by decide)(hcd:(x == ("__classdict__" : Str))=false:=by decide):PE X (.Name x pos) (Qiu i):=by
 intro pins s σ H Q I h;obtain⟨v,e,h⟩:=h;obtain⟨m,hn,hl⟩:=I.loc;obtain⟨u,r,l⟩:=hl i x v hN e hv;have fin:EP X pins σ Q u s:=⟨v,H,I,r,h⟩;rcases l with⟨hk,hm⟩ | ⟨hk,c,hc,hcell⟩
 ·exact QuI (wpAny_loadName_local I.ok.kind hk hn hm fin) hd
 ·rcases hk with hk | hk
  ·exact QuI (wpAny_loadName_cell I.ok.kind hk hc hcell fin) hd
  ·exact QuI (wpAny_loadName_free I.ok.kind hk hc hcell fin hcd) hd
theorem ZX{i j pos}:PE X (.Constant (.int i) j pos) (tC (.int i)):=λ_ _ _ H _ I h=>wpAny_Constant_int ⟨.int i,H,I.tok _,⟨_,rfl⟩,h⟩
theorem Qpe{b j pos}:PE X (.Constant (.bool b) j pos) (tC (.bl b)):=λ_ _ _ H _ I h=>Constant_bool ⟨.bl b,H,I,rfl,h⟩
theorem QsL{j pos}:PE X (.Constant .none j pos) (tC .non):=λ_ _ _ H _ I h=>Constant_none ⟨.non,H,I,rfl,h⟩
theorem QgW{x j pos}:PE X (.Constant (.str x) j pos) (tC (.str x)):=λ_ _ _ H _ I h=>Calls.Constant_str ⟨.str x,H,I.tok _,⟨_,rfl⟩,h⟩
def Gl(X:Cx)(x:Str):Prop:=X.env.kindOf x=some .globalImplicit
theorem Qb2{E:Value->Shared->Prop}{pins:List (Addr×Obj)}{s:Shared}{σ:St}{H:Hp}{x:Str}{u:Value}{pos:Pos}{Q:Value->Shared->Prop}(I:Inv X pins σ H s)(hg:Gl X x)(hm:X.mg x=some u)(h:Q u s)
  (hd:(x == ("__debug__" : Str))=false:=by decide):wpAny (model X.prog X.w) X.A (eval (.Name x pos) X.env) Q E s:=
 QeR I.ok.kind hg (Calls.loadGlobal_global (by rw[I.ok.glob];exact I.mod.glob.keeps I.bk) hm h) hd
theorem Qbx{E:Value->Shared->Prop}{pins:List (Addr×Obj)}{s:Shared}{σ:St}{H:Hp}{x:Str}{u:Value}{pos:Pos}{Q:Value->Shared->Prop}(I:Inv X pins σ H s)(hg:Gl X x)(hm:X.mg x=none)(hv:bootBuiltins x=some u)(h:Q u s)
  (hn:x ≠ "__name__" := by decide)(hd:(x == ("__debug__" : Str))=false:=by decide):wpAny (model X.prog X.w) X.A (eval (.Name x pos) X.env) Q E s:=by
 obtain⟨mb,h1,h2⟩:=I.mod.blt;exact QeR I.ok.kind hg (Calls.loadGlobal_builtin (by rw[I.ok.glob];exact I.mod.glob.keeps I.bk) hm (by rw[I.ok.blt];exact h1.keeps I.bk) ((h2 x hn).trans hv) h) hd
theorem Qf8{x:Str}{v:V}{u:Value}{pos:Pos}(hg:Gl X x)(hm:X.mg x=some u)(r:RelV v u)(hd:(x == ("__debug__" : Str))=false:=by decide):PE X (.Name x pos) (tC v):=
 λ_ _ _ H _ I h=>Qb2 I hg hm ⟨v,H,I,r,h⟩ hd
theorem Qjz{x:Str}{v:V}{u:Value}{pos:Pos}(hg:Gl X x)(hm:X.mg x=none)(hv:bootBuiltins x=some u)(r:RelV v u)(hn:x ≠ "__name__" := by decide)(hd:(x == ("__debug__" : Str))=false:=by decide):PE X (.Name x pos) (tC v):=
 λ_ _ _ H _ I h=>Qbx I hg hm hv ⟨v,H,I,r,h⟩ hn hd
variable{a b:QL}{ta tb:TE}{pos:Pos}
def tB(t:TE):TT:=λσ H Q=>t σ H λx H1=>∃c,x=.bl c/\Q c H1
theorem QnN{e:QL}{t:TE}(h:PE X e t)(he:∀whole,isTrue e X.env whole=(do let v <- whole;standAt e.pos;holding [v] (truthy v)):=by intro _;rfl):PT X e (tB t):=by
 intro pins s σ H Q I hw;refine isTrue_plain (thn (h pins s σ H _ I hw) λv s1 ⟨x,H1,I1,r1,q1⟩=>?_) (he _);obtain⟨d,rfl,q⟩:=q1;cases r1;exact Jy ⟨H1,I1,q⟩
variable{tA tB':TT}{rest:List QL}
def Qw5(t u:TT):TT:=λσ H Q=>t σ H λc H1=>if c=true then u σ H1 Q else Q false H1
def tOr(t u:TT):TT:=λσ H Q=>t σ H λc H1=>if c=true then Q true H1 else u σ H1 Q
def Qw1(t:TT):TT:=λσ H Q=>t σ H λc H1=>Q (!c) H1
theorem QoZ(ha:PT X a tA):PW X (.BoolOp .And [a] pos) tA:=by
 intro wh pins s σ H Q I h;refine isTrue_and (thn (ha pins s σ H Q I h) λc s1 e=>?_);cases c with
 |true=>exact isTrue_and_nil e
 |false=>exact e
theorem QnM(ha:PT X a tA):PW X (.BoolOp .Or [a] pos) tA:=by
 intro wh pins s σ H Q I h;refine isTrue_or (thn (ha pins s σ H Q I h) λc s1 e=>?_);cases c with
 |false=>exact isTrue_or_nil e
 |true=>exact e
theorem QsC(ha:PT X a tA)(hb:PW X (.BoolOp .And (b::rest) pos) tB'):PW X (.BoolOp .And (a::b::rest) pos) (Qw5 tA tB'):=by
 intro wh pins s σ H Q I h;refine isTrue_and (thn (ha pins s σ H _ I h) λc s1 ⟨H1,I1,q1⟩=>?_);cases c with
 |true=>exact hb wh pins s1 σ H1 Q I1 q1
 |false=>exact⟨H1,I1,q1⟩
theorem QsB(ha:PT X a tA)(hb:PW X (.BoolOp .Or (b::rest) pos) tB'):PW X (.BoolOp .Or (a::b::rest) pos) (tOr tA tB'):=by
 intro wh pins s σ H Q I h;refine isTrue_or (thn (ha pins s σ H _ I h) λc s1 ⟨H1,I1,q1⟩=>?_);cases c with
 |true=>exact⟨H1,I1,q1⟩
 |false=>exact hb wh pins s1 σ H1 Q I1 q1
theorem QnO(ha:PT X a tA):PT X (.UnaryOp .Not a pos) (Qw1 tA):=by
 intro pins s σ H Q I h;exact isTrue_not (ha pins s σ H (λc H1=>Q (!c) H1) I h)
def Qvf(ta tb:TE):TE:=λσ H Q=>ta σ H λx H1=>∃c,x=.bl c/\if c=true then tb σ H1 Q else Q (.bl false) H1
def Qw0(ta tb:TE):TE:=λσ H Q=>ta σ H λx H1=>∃c,x=.bl c/\if c=true then Q (.bl true) H1 else tb σ H1 Q
def Qvb(ta:TE):TE:=λσ H Q=>ta σ H λx H1=>∃c,x=.bl c/\Q (.bl (!c)) H1
theorem QsJ{op}{t:TE}(h:PE X a t):PE X (.BoolOp op [a] pos) t:=λpins s σ H Q I hw=>BoolOp_one (h pins s σ H Q I hw)
theorem QsN(ha:PE X a ta)(hb:PE X (.BoolOp .And (b::rest) pos) tb):PE X (.BoolOp .And (a::b::rest) pos) (Qvf ta tb):=by
 intro pins s σ H Q I h;refine BoolOp_and (thn (ha pins s σ H _ I h) λv s1 ⟨x,H1,I1,r1,q1⟩=>?_);obtain⟨c,rfl,q1⟩:=q1;cases r1;refine Jy ?_
 cases c with
 |true=>exact hb pins s1 σ H1 Q I1 q1
 |false=>exact⟨.bl false,H1,I1,rfl,q1⟩
theorem Qvz(ha:PE X a ta)(hb:PE X (.BoolOp .Or (b::rest) pos) tb):PE X (.BoolOp .Or (a::b::rest) pos) (Qw0 ta tb):=by
 intro pins s σ H Q I h;refine BoolOp_or (thn (ha pins s σ H _ I h) λv s1 ⟨x,H1,I1,r1,q1⟩=>?_);obtain⟨c,rfl,q1⟩:=q1;cases r1;refine Jy ?_
 cases c with
 |false=>exact hb pins s1 σ H1 Q I1 q1
 |true=>exact⟨.bl true,H1,I1,rfl,q1⟩
theorem QsK(ha:PE X a ta):PE X (.UnaryOp .Not a pos) (Qvb ta):=by
 intro pins s σ H Q I h;refine UnaryOp_ (thn (ha pins s σ H _ I h) λv s1 ⟨x,H1,I1,r1,q1⟩=>?_);obtain⟨c,rfl,q1⟩:=q1;cases r1;exact not_of (Jy ⟨.bl (!c),H1,I1,rfl,q1⟩)
def tIf(t:TT)(ta tb:TE):TE:=λσ H Q=>t σ H λc H1=>if c=true then ta σ H1 Q else tb σ H1 Q
theorem Ql8{c:QL}(hc:PT X c tA)(ha:PE X a ta)(hb:PE X b tb):PE X (.IfExp c a b pos) (tIf tA ta tb):=by
 intro pins s σ H Q I h;refine wpAny_IfExp (thn (hc pins s σ H _ I h) λd s1 ⟨H1,I1,q1⟩=>?_);cases d with
 |true=>exact ha pins s1 σ H1 Q I1 q1
 |false=>exact hb pins s1 σ H1 Q I1 q1
end
def SqL(K:PySem.W.Frag)(H:Hp)(a:Addr)(xs:List V):Prop:=
 Rd H a (.lst xs) ∨
  ∃(o:Obj)(its:Array Value)(n:Nat),K.lookup a=some o/\o.cls=.type "list" /\ o.dict=none/\o.data=.seq its n/\its.size<=sizeLine/\Vals xs its.toList
def SqT(K:PySem.W.Frag)(H:Hp)(a:Addr)(xs:List V):Prop:=
 Rd H a (.tup xs) ∨
  ∃(o:Obj)(its:Array Value)(n:Nat),K.lookup a=some o/\o.cls=.type "tuple" /\ o.data=.seq its n/\its.size<=sizeLine/\Vals xs its.toList
def Qxp:Value->Option V
 |.none=>some .non
 |.bool b=>some (.bl b)
 |.int i _=>some (.int i)
 |.str x _=>some (.str x)
 |.bytes b _=>some (.byt b)
 |.float b _=>some (.flt b)
 |.ref a=>some (.ref a)
 |.type n=>some (.ty n)
 |_=>none
theorem RelV.abs{x:V}{u:Value}(r:RelV x u):Qxp u=some x:=by
 cases x with
 |non=>cases r;rfl
 |bl _=>cases r;rfl
 |int _=>obtain⟨t,rfl⟩:=r;rfl
 |str _=>obtain⟨t,rfl⟩:=r;rfl
 |byt _=>obtain⟨t,rfl⟩:=r;rfl
 |flt _=>obtain⟨t,rfl⟩:=r;rfl
 |ref _=>cases r;rfl
 |ty _=>cases r;rfl
theorem RelV.inj{x y:V}{u:Value}(r:RelV x u)(q:RelV y u):x=y:=Qq (r.abs.symm.trans q.abs)
theorem Vals.inj:∀{xs ys:List V}{us:List Value},Vals xs us->Vals ys us->xs=ys
 |_,_,_,.nil,.nil=>rfl
 |_,_,_,.cons r t,.cons r' t'=>by rw[r.inj r',Vals.inj t t']
section
variable{X:Cx}{pins:List (Addr×Obj)}{σ:St}{H:Hp}{s:Shared}{a:Addr}{xs ys:List V}
theorem SqL.of{K:PySem.W.Frag}(h:H a=some (.lst xs)):SqL K H a xs:=.inl (.inl h)
theorem SqT.of{K:PySem.W.Frag}(h:H a=some (.tup xs)):SqT K H a xs:=.inl (.inl h)
theorem Inv.list(I:Inv X pins σ H s)(h:SqL X.K H a xs):∃its:List Value,Vals xs its/\PlainL s.heap a its.toArray/\xs.length<=sizeLine:=by
 rcases h with h | ⟨o,its,n,hk,hc,hd,hs,hz,r⟩
 ·obtain⟨z,its,n,r,e⟩:=h.ok I.hok;exact⟨its,r,⟨_,n,e,rfl,rfl,rfl⟩,z⟩
 ·refine⟨its.toList,r,⟨o,n,I.kIn a o hk,hc,hd,by simpa using hs⟩,?_⟩;have e:=r.length;simp only[ZH] at e;omega
theorem Inv.tuple(I:Inv X pins σ H s)(h:SqT X.K H a xs):∃its:List Value,Vals xs its/\IsTup s.heap a its.toArray/\xs.length<=sizeLine:=by
 rcases h with h | ⟨o,its,n,hk,hc,hs,hz,r⟩
 ·obtain⟨z,its,r,p⟩:=h.ok I.hok;exact⟨its,r,p.tup,z⟩
 ·refine⟨its.toList,r,⟨o,I.kIn a o hk,hc,n,by simpa using hs⟩,?_⟩;have e:=r.length;simp only[ZH] at e;omega
theorem Inv.list_inj(I:Inv X pins σ H s)(h:SqL X.K H a xs)(h':SqL X.K H a ys):xs=ys:=by
 obtain⟨its,r,⟨o,n,e,_,_,d⟩,_⟩:=I.list h;obtain⟨its',r',⟨o',n',e',_,_,d'⟩,_⟩:=I.list h';rw[e] at e';cases e';rw[d] at d';injection d' with d1 _
 have:its=its':=by simpa using congrArg Qus d1
 subst this;exact r.inj r'
theorem Inv.tuple_inj(I:Inv X pins σ H s)(h:SqT X.K H a xs)(h':SqT X.K H a ys):xs=ys:=by
 obtain⟨its,r,⟨o,e,_,n,d⟩,_⟩:=I.tuple h;obtain⟨its',r',⟨o',e',_,n',d'⟩,_⟩:=I.tuple h';rw[e] at e';cases e';rw[d] at d';injection d' with d1 _
 have:its=its':=by simpa using congrArg Qus d1
 subst this;exact r.inj r'
end
abbrev Cx.wish (X:Cx) (E:Value->Shared->Prop):Cx:={ X with xe:=E }
abbrev Cx.nox (X:Cx):Cx:=X.wish λ_ _=>False
theorem Cx.Ok.wish{X:Cx}(ok:X.Ok)(E:Value->Shared->Prop):(X.wish E).Ok:=
 ⟨ok.mod,ok.kind,ok.glob,ok.blt,ok.above,ok.inj,ok.has,ok.cab,ok.hd,ok.frames,ok.stk,ok.exf,ok.bs,ok.bsz,ok.noex,ok.exfs,ok.funs,ok.frf⟩
theorem Cx.Ok.unwish{X:Cx}{E:Value->Shared->Prop}(ok:(X.wish E).Ok):X.Ok:=
 ⟨ok.mod,ok.kind,ok.glob,ok.blt,ok.above,ok.inj,ok.has,ok.cab,ok.hd,ok.frames,ok.stk,ok.exf,ok.bs,ok.bsz,ok.noex,ok.exfs,ok.funs,ok.frf⟩
section
variable{X:Cx}{pins:List (Addr×Obj)}{σ:St}{H:Hp}{s:Shared}{E:Value->Shared->Prop}
theorem Inv.wish(I:Inv X pins σ H s)(E:Value->Shared->Prop):Inv (X.wish E) pins σ H s:=⟨I.ok.wish E,I.os,I.bare,I.base,I.loc,I.cell,I.free,I.freeC,I.pin,I.hok,I.len⟩
theorem Inv.unwish(I:Inv (X.wish E) pins σ H s):Inv X pins σ H s:=⟨I.ok.unwish,I.os,I.bare,I.base,I.loc,I.cell,I.free,I.freeC,I.pin,I.hok,I.len⟩
theorem SP.unwish{D:Ends}{f:Flow}{s':Shared}(h:SP (X.wish E) pins D f s'):SP X pins D f s':=by
 cases f with
 |next=>obtain⟨σ',H',I,q⟩:=h;exact⟨σ',H',I.unwish,q⟩
 |brk=>obtain⟨σ',H',I,q⟩:=h;exact⟨σ',H',I.unwish,q⟩
 |cont=>obtain⟨σ',H',I,q⟩:=h;exact⟨σ',H',I.unwish,q⟩
 |ret u=>obtain⟨v,σ',H',I,r,q⟩:=h;exact⟨v,σ',H',I.unwish,r,q⟩
theorem PE.nox{e:QL}{t:TE}(h:PE X.nox e t):PE X e t:=λpins s σ H Q I hw=>
 wpAny_mono (h pins s σ H Q (I.wish _) hw) (λ_ _ ⟨v,H',I',r,q⟩=>⟨v,H',I'.unwish,r,q⟩) λ_ _ z=>Jh z
theorem PT.nox{e:QL}{t:TT}(h:PT X.nox e t):PT X e t:=λpins s σ H Q I hw=>
 wpAny_mono (h pins s σ H Q (I.wish _) hw) (λ_ _ ⟨H',I',q⟩=>⟨H',I'.unwish,q⟩) λ_ _ z=>Jh z
theorem PSs.nox{st:List ZA}{t:TS}(h:PSs X.nox st t):PSs X st t:=λpins s σ H D I hw=>
 wpAny_mono (h pins s σ H D (I.wish _) hw) (λ_ _ q=>q.unwish) λ_ _ z=>Jh z
end
section
variable{X:Cx}{st:ZA}{rest:List ZA}{t u:TS}{e:QL}{te:TE}{pos:Pos}
def Qvc:TS:=λD σ H=>D.nx σ H
def QwY(t u:TS):TS:=λD σ H=>t { D with nx:=u D } σ H
theorem Qen:PSs X [] Qvc:=λ_ _ σ H _ I h=>Qau ⟨σ,H,I,h⟩
theorem Zr(h1:PS X st t)(h2:PSs X rest u):PSs X (st::rest) (QwY t u):=by
 intro pins s σ H D I h;refine QbE (thn (h1 pins s σ H { D with nx:=u D } I h) λf s1 q=>?_);cases f with
 |next=>
  obtain⟨σ',H',I',q⟩:=q;exact h2 pins s1 σ' H' D I' q
 |ret v=>exact q
 |brk=>exact q
 |cont=>exact q
theorem Qaf(h1:PS X st t):PSs X [st] t:=by
 intro pins s σ H D I h;refine QbE (thn (h1 pins s σ H D I h) λf s1 q=>?_);cases f with
 |next=>exact Qau q
 |ret v=>exact q
 |brk=>exact q
 |cont=>exact q
theorem Inv.quiet{pins:List (Addr×Obj)}{σ:St}{H:Hp}{s:Shared}(I:Inv X pins σ H s):interactive X.env=false:=by simp[interactive,I.ok.kind]
def Qse(te:TE):TS:=λD σ H=>te σ H λ_ H1=>D.nx σ H1
theorem Qo3(he:PE X e te)(hs:swapsWith e none pos.line X.env=pure false:=by rfl):PS X (.Expr e pos) (Qse te):=by
 intro pins s σ H D I h;exact wpAny_Expr_any (thn (he pins s σ H _ I h) λv s1 ⟨x,H1,I1,r1,q1⟩=>⟨σ,H1,I1,q1⟩) I.quiet hs
def QwZ(te:TE):TS:=λD σ H=>te σ H D.rt
theorem QaW(he:PE X e te):PS X (.Return (some e) pos) (QwZ te):=by
 intro pins s σ H D I h;exact QuH (thn (he pins s σ H _ I h) λv s1 ⟨x,H1,I1,r1,q1⟩=>⟨x,σ,H1,I1,r1,q1⟩)
def Qw4(c:TT)(t u:TS):TS:=λD σ H=>c σ H λb H1=>if b=true then t D σ H1 else u D σ H1
theorem Ql2{c:QL}{a b:List ZA}{tc:TT}(hc:PT X c tc)(ha:PSs X a t)(hb:PSs X b u):PS X (.If c a b pos) (Qw4 tc t u):=by
 intro pins s σ H D I h;refine wpAny_If (thn (hc pins s σ H _ I h) λd s1 ⟨H1,I1,q1⟩=>?_);cases d with
 |true=>exact ha pins s1 σ H1 D I1 q1
 |false=>exact hb pins s1 σ H1 D I1 q1
end
abbrev TG:=V->St->Hp->(St->Hp->Prop)->Prop
abbrev TGs:=List V->St->Hp->(St->Hp->Prop)->Prop
def PG(X:Cx)(target:QL)(t:TG):Prop:=
 ∀(pins:List (Addr×Obj))(s:Shared)(σ:St)(H:Hp)(v:V)(u:Value)(Q:St->Hp->Prop),Inv X pins σ H s->RelV v u->t v σ H Q ->
  wpAny (model X.prog X.w) X.A (assign target X.env u) (λ_ s'=>∃σ' H',Inv X pins σ' H' s'/\Q σ' H') X.xe s
def PGs(X:Cx)(ts:List QL)(t:TGs):Prop:=
 ∀(pins:List (Addr×Obj))(s:Shared)(σ:St)(H:Hp)(vs:List V)(us:List Value)(Q:St->Hp->Prop),Inv X pins σ H s->Vals vs us->t vs σ H Q ->
  wpAny (model X.prog X.w) X.A (assignInOrder ((assignEach ts X.env).map (·.2)) us) (λ_ s'=>∃σ' H',Inv X pins σ' H' s'/\Q σ' H') X.xe s
abbrev TSet:=V->V->V->Hp->(Hp->Prop)->Prop
def Qv8(X:Cx)(t:TSet):Prop:=
 ∀(pins:List (Addr×Obj))(s:Shared)(σ:St)(H:Hp)(o i v:V)(ov iv u:Value)(Q:Hp->Prop),Inv X pins σ H s->RelV o ov->RelV i iv->RelV v u->t o i v H Q ->
  wpAny (model X.prog X.w) X.A (setItem ov iv u) (λ_ s'=>∃H',Inv X pins σ H' s'/\Q H') X.xe s
abbrev TIp:=V->V->Hp->VK->Prop
def PIp(X:Cx)(op:Qd4)(t:TIp):Prop:=
 ∀(pins:List (Addr×Obj))(s:Shared)(σ:St)(H:Hp)(x y:V)(v u:Value)(Q:VK),Inv X pins σ H s->RelV x v->RelV y u->t x y H Q ->
  wpAny (model X.prog X.w) X.A (inplaceOp op v u) (EP X pins σ Q) X.xe s
section
variable{X:Cx}{pos:Pos}
def Qex(i:Nat):TG:=λv σ H Q=>Q (σ.set i (some v)) H
theorem Qf7{i:Nat}{x:Str}(hN:X.N.Nodup)(hi:X.N[i]? = some x)(hx:Loc X.env.scope x)(hf:X.fn x=true∨X.env.scope.names.lookup x=some .local:=by first | exact .inl rfl | exact .inr rfl | assumption):PG X (.Name x pos) (Qex i):=by
 intro pins s σ H v u Q I r h;exact QuG (Qee I hN hi hx r (λs' I'=>⟨_,H,I',h⟩) hf)
def Qwz:TGs:=λvs σ H Q=>vs=[]/\Q σ H
def QtF(t:TG)(u:TGs):TGs:=λvs σ H Q=>∃v r,vs=v::r/\t v σ H λσ' H'=>u r σ' H' Q
theorem Qpa:PGs X [] Qwz:=by
 intro pins s σ H vs us Q I r h;obtain⟨e,h⟩:=h;subst e;cases r;exact assignInOrder_nil ⟨σ,H,I,h⟩
theorem Ql5{e:QL}{es:List QL}{t:TG}{u:TGs}(h1:PG X e t)(h2:PGs X es u)
  (hs:(assignEach (e::es) X.env).map (·.2)=assign e X.env::(assignEach es X.env).map (·.2):=by rfl):PGs X (e::es) (QtF t u):=by
 intro pins s σ H vs us Q I r h;obtain⟨v,vr,e1,h⟩:=h;subst e1;cases r with
 |cons r rr=>
  rw[hs];refine assignInOrder_cons (thn (h1 pins s σ H _ _ _ I r h) λ_ s1 ⟨σ1,H1,I1,q1⟩=>?_);exact h2 pins s1 σ1 H1 _ _ Q I1 rr q1
def Qwy(K:PySem.W.Frag)(n:Nat)(t:TGs):TG:=λv σ H Q=>∃a xs,v=.ref a/\SqT K H a xs/\xs.length=n/\t xs σ H Q
theorem QsH{es:List QL}{k:Nat}{t:TGs}{n:Nat}(hc:X.calm=true)(h:PGs X es t)
  (hn:(assignEach es X.env).length=n:=by rfl)(hst:(assignEach es X.env).findIdx? (·.1)=none:=by rfl):PG X (.Tuple es k pos) (Qwy X.K n t):=by
 intro pins s σ H v u Q I r hw;obtain⟨a,xs,e1,hq,hl,hw⟩:=hw;subst e1;cases r;obtain⟨its,rv,ht,hz⟩:=I.tuple hq;refine assign_Tuple_tuple (I.ok.hd hc) ht (by simp[hn,<- hl,rv.length]) hst λh' hx=>?_
 have I1:Inv X pins σ H { s with heap:=h' }:=I.kept (t':=s.toks) λb o e=>hx b o (Qs (Qi e)) e
 exact h pins _ σ H xs _ Q I1 (by simpa using rv) hw
def gSub(to ti:TE)(t:TSet):TG:=λv σ H Q=>to σ H λo H1=>ti σ H1 λi H2=>t o i v H2 λH3=>Q σ H3
theorem QsI{o i:QL}{to ti:TE}{t:TSet}(ho:PE X o to)(hi:PE X i ti)(hs:Qv8 X t)
  (ha:∀v,assign (.Subscript o i pos) X.env v=(do
   let ov <- holding [v] (eval o X.env)
   let iv <- holding [v,ov] (eval i X.env)
   standAt pos
   holding [v,ov,iv] (setItem ov iv v)
   release [v,ov,iv] []):=by intro _;rfl):PG X (.Subscript o i pos) (gSub to ti t):=by
 intro pins s σ H v u Q I r h;rw[ha];refine wpAny_bind (JN (thn (ho pins s σ H _ I h) λov s1 ⟨x,H1,I1,r1,q1⟩=>?_));refine wpAny_bind (JN (thn (hi pins s1 σ H1 _ I1 q1) λiv s2 ⟨y,H2,I2,r2,q2⟩=>?_));refine wpAny_bind (wpAny_standAt (wpAny_bind (JN (thn (hs pins s2 σ H2 x y v ov iv u _ I2 r1 r2 r q2) λ_ s3 ⟨H3,I3,q3⟩=>?_))));exact wpAny_release ⟨σ,H3,I3,q3⟩
def QnC(te:TE)(g:TG):TS:=λD σ H=>te σ H λx H1=>g x σ H1 D.nx
theorem QnQ{tg e:QL}{te:TE}{g:TG}(he:PE X e te)(hg:PG X tg g)(hs:swapsWithSole [tg] e pos.line X.env=pure false:=by rfl)(hw:swappedStores [tg] e X.env=pure none:=by rfl)
  (h1:(assignEach [tg] X.env).map (·.2)=[assign tg X.env]:=by rfl):PS X (.Assign [tg] e pos) (QnC te g):=by
 intro pins s σ H D I h;refine wpAny_Assign_stores (thn (he pins s σ H _ I h) λv s1 ⟨x,H1,I1,r1,q1⟩=>?_) hs hw;rw[h1];exact thn (hg pins s1 σ H1 x v _ I1 r1 q1) λ_ s2 q=>q
theorem YR{i:Nat}{x:Str}{e:QL}{te:TE}{pos':Pos}(hN:X.N.Nodup)(hi:X.N[i]? = some x)(hx:Loc X.env.scope x)(he:PE X e te)(hs:swapsWith e (some (.Name x pos')) pos.line X.env=pure false:=by rfl)(hf:X.fn x=true∨X.env.scope.names.lookup x=some .local:=by first | exact .inl rfl | exact .inr rfl | assumption) :
  PS X (.Assign [.Name x pos'] e pos) (QnC te (Qex i)):=by
 intro pins s σ H D I h;refine wpAny_Assign_Name (thn (he pins s σ H _ I h) λv s1 ⟨y,H1,I1,r1,q1⟩=>?_) hs;exact Qee I1 hN hi hx r1 (λs2 I2=>⟨_,H1,I2,q1⟩) hf
def Qsf(to ti te:TE)(tget:V->V->Hp->VK->Prop)(tip:TIp)(tset:TSet):TS:=λD σ H=>to σ H λo H1=>ti σ H1 λi H2=>tget o i H2 λx H3=>te σ H3 λy H4=>tip x y H4 λz H5=>tset o i z H5 λH6=>D.nx σ H6
def QwS(X:Cx)(t:V->V->Hp->VK->Prop):Prop:=
 ∀(pins:List (Addr×Obj))(s:Shared)(σ:St)(H:Hp)(o i:V)(ov iv:Value)(Q:VK),Inv X pins σ H s->RelV o ov->RelV i iv->t o i H Q ->
  wpAny (model X.prog X.w) X.A (getItem ov iv) (EP X pins σ Q) X.xe s
theorem Qo4{o i e:QL}{to ti te:TE}{tget:V->V->Hp->VK->Prop}{tip:TIp}{tset:TSet}{op:Qd4}{tpos:Pos}(ho:PE X o to)(hi:PE X i ti)(hg:QwS X tget)(he:PE X e te)(hp:PIp X op tip)(hs:Qv8 X tset)
  (ha:∀ov iv new,augStore i ov iv new=(do holding [new,ov,iv] (setItem ov iv new);release [new,ov,iv] [];pure .next):=by intros;rfl):PS X (.AugAssign (.Subscript o i tpos) op e pos) (Qsf to ti te tget tip tset):=by
 intro pins s σ H D I h;refine wpAny_AugAssign_SubscriptAny (thn (ho pins s σ H _ I h) λov s1 ⟨x1,H1,I1,r1,q1⟩=>?_) ha;refine thn (hi pins s1 σ H1 _ I1 q1) λiv s2 ⟨x2,H2,I2,r2,q2⟩=>?_
 refine thn (hg pins s2 σ H2 x1 x2 ov iv _ I2 r1 r2 q2) λold s3 ⟨x3,H3,I3,r3,q3⟩=>?_
 refine thn (he pins s3 σ H3 _ I3 q3) λv s4 ⟨x4,H4,I4,r4,q4⟩=>?_
 refine thn (hp pins s4 σ H4 x3 x4 old v _ I4 r3 r4 q4) λnew s5 ⟨x5,H5,I5,r5,q5⟩=>?_
 exact thn (hs pins s5 σ H5 x1 x2 x5 ov iv new _ I5 r1 r2 r5 q5) λ_ s6 ⟨H6,I6,q6⟩=>⟨σ,H6,I6,q6⟩
def ipI(f:Int->Int->Int):TIp:=λx y H Q=>∃i j,x=.int i/\y=.int j/\Q (.int (f i j)) H
theorem QnY:PIp X .Add (ipI λi j=>i+j):=by
 intro pins s σ H x y v u Q I r1 r2 h;obtain⟨i,j,e1,e2,q⟩:=h;subst e1;subst e2;obtain⟨t,rfl⟩:=r1;obtain⟨t',rfl⟩:=r2;exact iadd_int ⟨.int _,H,I.tok _,⟨_,rfl⟩,q⟩
end
section
variable{X:Cx}{pos:Pos}
end
structure It where
 go:Nat->Hp->Prop
 yld:Nat->Hp->V->Hp->Prop
 stop:Nat->Hp->Prop
def FpOk(X:Cx)(pins:List (Addr×Obj))(H:Hp)(b:Addr):Prop:=
 H b=none/\b≠X.env.locals/\b∉X.fs/\(b∈X.ex∨X.s₀.heap.objs.size<=b)/\(∀x c,X.env.cells.lookup x=some c->c≠b)/\∀p∈X.pn++pins,p.1≠b
theorem Inv.fpOk{X:Cx}{pins:List (Addr×Obj)}{σ:St}{H H':Hp}{s:Shared}{b:Addr}(I:Inv X pins σ H s)(hb:s.heap.objs.size<=b)(hn:H' b=none):FpOk X pins H' b:=by
 refine⟨hn,Qbi (Qt I.lt hb),I.nofs hb,.inr (QQ I.sz hb),λx c e z=>?_,λp hp z=>?_⟩
 ·obtain⟨v,q⟩:=I.cell x c e;exact absurd (Qt q.lt (by rw[z];exact hb)) (ZL _)
 ·exact absurd (Qt (Qi (I.pin p hp).1) (by rw[z];exact hb)) (ZL _)
structure Turn (P:QD) (w:Je) (K:PySem.W.Frag) (tg:QL) (J:It) (fp:List Addr) (it:Addr) (tn:Nat->JM->Prop):Prop where
 mem:it∈fp
 obj:∀i h,tn i h->∀b∈fp,∃o,h.get? b=some o/\∀v,o.data≠.cell v
 keep:∀i h h',tn i h->(∀b∈fp,∀o,h.get? b=some o->h'.get? b=some o)->tn i h'
 item:∀(X:Cx),X.prog=P->X.w=w->X.K=K->X.calm=true->∀(i:Nat)(pins:List (Addr×Obj))(s:Shared)(σ:St)(H:Hp)(E:Value->Shared->Prop),Inv X pins σ H s->(∀b∈fp,FpOk X pins H b)->tn i s.heap->J.go i H ->
  wpAny (model P w) X.A (pyNext (.ref it)) (λr s1=>∃u,r=some u /\
   wpAny (model P w) X.A (letOwnedTupleGo tg (.ref it) u) (λ_ s2=>∃x H',Inv X pins σ H' s2/\RelV x u/\J.yld i H x H'/\tn (i+1) s2.heap/\∀b∈fp,H' b=none) E s1) E s
 done:∀(X:Cx),X.prog=P->X.w=w->X.K=K->X.calm=true->∀(i:Nat)(pins:List (Addr×Obj))(s:Shared)(σ:St)(H:Hp)(E:Value->Shared->Prop),Inv X pins σ H s->(∀b∈fp,FpOk X pins H b)->tn i s.heap->J.stop i H ->
  wpAny (model P w) X.A (pyNext (.ref it)) (λr s1=>r=none/\Inv X pins σ H s1) E s
 self:∀(A:Q5)(i:Nat)(s:Shared)(Q:Value->Shared->Prop)(E:Value->Shared->Prop),tn i s.heap->Q (.ref it) s->wpAny (model P w) A (pyIter (.ref it)) Q E s
abbrev TI:=St->Hp->(It->Hp->Prop)->Prop
def PIE(X:Cx)(pins:List (Addr×Obj))(σ:St)(tg:QL)(R:It->Hp->Prop)(itv:Value)(s2:Shared):Prop:=
 ∃(it:Addr)(fp:List Addr)(tn:Nat->JM->Prop)(J:It)(H':Hp),itv=.ref it/\Inv X pins σ H' s2/\Turn X.prog X.w X.K tg J fp it tn/\tn 0 s2.heap/\(∀b∈fp,FpOk X pins H' b)/\R J H'
def PI(X:Cx)(tg iter:QL)(wi:TI):Prop:=
 ∀(pins:List (Addr×Obj))(s:Shared)(σ:St)(H:Hp)(R:It->Hp->Prop),Inv X pins σ H s->wi σ H R ->
  wpAny (model X.prog X.w) X.A (eval iter X.env) (λv s1=>wpAny (model X.prog X.w) X.A (pyIter v) (PIE X pins σ tg R) X.xe s1) X.xe s
theorem Qrf{M:QiG}{A:Q5}{E:Value->Shared->Prop}{s:Shared}{tg:QL}{it:Addr}{u:Value}{o:Obj}{n:String}{vs:Array Value}{Q:Unit->Shared->Prop}(ho:s.heap.get? it=some o)(hc:o.cls=.type n)(hd:o.data=.fields vs)
  (hn:["enumerate", "zip", "dict_itemiterator", "dict_reverseitemiterator", "odict_iterator", "itertools.zip_longest", "itertools.pairwise"].contains n=false)(hQ:Q () s):wpAny M A (letOwnedTupleGo tg (.ref it) u) Q E s:=by
 unfold letOwnedTupleGo;cases tg<;>first
  |exact Qj hQ
  |(cases u<;>first
    |exact Qj hQ
    |(refine wpAny_bind (wpAny_load ho ?_)
      rw[hc,hd];show wpAny M A (if(["enumerate", "zip", "dict_itemiterator", "dict_reverseitemiterator", "odict_iterator", "itertools.zip_longest", "itertools.pairwise"].contains n&&vs[0]? == some (rawInt _))=true then _ else _) Q E s;rw[if_neg (by intro h;rw[hn,QfO] at h;cases h)];exact Qj hQ))
def Itl(K:PySem.W.Frag)(a:Addr):It:=
 ⟨λi H=>∃xs x,SqL K H a xs/\xs[i]? = some x,λi H x H'=>H'=H/\∀xs,SqL K H a xs->xs[i]? = some x,λi H=>∃xs,SqL K H a xs/\xs.length<=i⟩
def Itt(K:PySem.W.Frag)(a:Addr):It:=
 ⟨λi H=>∃xs x,SqT K H a xs/\xs[i]? = some x,λi H x H'=>H'=H/\∀xs,SqT K H a xs->xs[i]? = some x,λi H=>∃xs,SqT K H a xs/\xs.length<=i⟩
def Itr(lo:Int)(n:Nat):It:=⟨λi _=>i<n,λi H x H'=>H'=H/\x=.int (lo+i),λi _=>n<=i⟩
theorem QiN{P:QD}{w:Je}{K:PySem.W.Frag}{tg:QL}(a it:Addr):Turn P w K tg (Itl K a) [it] it (λi h=>h.IsListIter it a i) where
 mem:=by simp
 obj:=λi h st b hb=>by
  have e:b=it:=by simpa using hb
  subst e;obtain⟨o,e,c,d⟩:=st;exact⟨o,e,λv z=>by rw[d] at z;cases z⟩
 keep:=λi h h' st k=>st.at λo e=>k it (by simp) o e
 item:=by
  intro X hP hw hK hc i pins s σ H E I hf st hg;subst hP hw hK;obtain⟨xs,x,hq,hx⟩:=hg;obtain⟨its,rv,p,hz⟩:=I.list hq;obtain⟨u,hu,ru⟩:=rv.get hx;obtain⟨f0,f1,f2,f3,f4,f5⟩:=hf it (by simp);refine QbI st p.isList (x:=u) (by simpa using hu) λh' st' sb=>?_
  have I1:Inv X pins σ H { s with heap:=h' }:=I.turned (t':=s.toks) (λb o hb e=>(sb.2 b hb).trans e) f0 f1 f3 f4 f5;obtain⟨o,e,c,d⟩:=id st';exact⟨u,rfl,Qrf (s:={ s with heap:=h' }) e c d (by decide) ⟨x,H,I1,ru,⟨rfl,λys hy=>by rw[I.list_inj hy hq];exact hx⟩,st',λb hb=>(hf b hb).1⟩⟩
 done:=by
  intro X hP hw hK hc i pins s σ H E I hf st hg;subst hP hw hK;obtain⟨xs,hq,hx⟩:=hg;obtain⟨its,rv,p,hz⟩:=I.list hq;obtain⟨f0,f1,f2,f3,f4,f5⟩:=hf it (by simp);have hl:=rv.length;exact Qck (I.ok.hd hc) st p.isList (by simp;omega) λh' eb=>⟨rfl,I.turned (t':=s.toks) (λb o hb e=>eb b o hb e) f0 f1 f3 f4 f5⟩
 self:=λ_ _ _ _ _ st h=>wpAny_pyIter_listiter st h
theorem Qhw{P:QD}{w:Je}{K:PySem.W.Frag}{tg:QL}(a it:Addr):Turn P w K tg (Itt K a) [it] it (λi h=>h.IsTupleIter it a i) where
 mem:=by simp
 obj:=λi h st b hb=>by
  have e:b=it:=by simpa using hb
  subst e;obtain⟨o,e,c,d⟩:=st;exact⟨o,e,λv z=>by rw[d] at z;cases z⟩
 keep:=λi h h' st k=>st.at λo e=>k it (by simp) o e
 item:=by
  intro X hP hw hK hc i pins s σ H E I hf st hg;subst hP hw hK;obtain⟨xs,x,hq,hx⟩:=hg;obtain⟨its,rv,p,hz⟩:=I.tuple hq;obtain⟨u,hu,ru⟩:=rv.get hx;obtain⟨f0,f1,f2,f3,f4,f5⟩:=hf it (by simp);refine wpAny_pyNext_tuple_item st (show s.heap.IsTuple a its.toArray from p) (x:=u) (by simpa using hu) λh' st' sb=>?_
  have I1:Inv X pins σ H { s with heap:=h' }:=I.turned (t':=s.toks) (λb o hb e=>(sb.2 b hb).trans e) f0 f1 f3 f4 f5;obtain⟨o,e,c,d⟩:=id st';exact⟨u,rfl,Qrf (s:={ s with heap:=h' }) e c d (by decide) ⟨x,H,I1,ru,⟨rfl,λys hy=>by rw[I.tuple_inj hy hq];exact hx⟩,st',λb hb=>(hf b hb).1⟩⟩
 done:=by
  intro X hP hw hK hc i pins s σ H E I hf st hg;subst hP hw hK;obtain⟨xs,hq,hx⟩:=hg;obtain⟨its,rv,p,hz⟩:=I.tuple hq;obtain⟨f0,f1,f2,f3,f4,f5⟩:=hf it (by simp);have hl:=rv.length;exact wpAny_pyNext_tuple_end (I.ok.hd hc) st (show s.heap.IsTuple a its.toArray from p) (by simp;omega) λh' eb=>⟨rfl,I.turned (t':=s.toks) (λb o hb e=>eb b o hb e) f0 f1 f3 f4 f5⟩
 self:=λ_ _ _ _ _ st h=>wpAny_pyIter_tupleiter st h
theorem Qhx{P:QD}{w:Je}{K:PySem.W.Frag}{tg:QL}(it:Addr)(lo:Int)(n:Nat):Turn P w K tg (Itr lo n) [it] it (λi h=>IsRangeIter h it (lo+(i:Nat)*1) ((n:Int) - (i:Nat)) 1) where
 mem:=by simp
 obj:=λi h st b hb=>by
  have e:b=it:=by simpa using hb
  subst e;exact⟨_,st,λv z=>by
   have z':Data.fields _=Data.cell v:=z;cases z'⟩
 keep:=λi h h' st k=>k it (by simp) _ st
 item:=by
  intro X hP hw hK hc i pins s σ H E I hf st hg;subst hP hw hK;obtain⟨f0,f1,f2,f3,f4,f5⟩:=hf it (by simp);have W:=Walks.range (prog:=X.prog) (w:=X.w) (I.ok.hd hc) it lo 1 n;refine W.item i s _ _ hg st λv h' tk hv st' kk=>?_
  obtain⟨t,rfl⟩:=hv;have I1:Inv X pins σ H { s with heap:=h',toks:=tk }:=I.turned (λb o hb e=>kk b o (by simpa using hb) e) f0 f1 f3 f4 f5;refine⟨_,rfl,Qrf (s:={ s with heap:=h',toks:=tk }) (n := "range_iterator") st' rfl rfl (by decide) ⟨.int (lo+i),H,I1,⟨t,?_⟩,⟨rfl,rfl⟩,st',λb hb=>(hf b hb).1⟩⟩;rw[Int.mul_one]
 done:=by
  intro X hP hw hK hc i pins s σ H E I hf st hg;subst hP hw hK;obtain⟨f0,f1,f2,f3,f4,f5⟩:=hf it (by simp);exact wpAny_pyNext_range_end (I.ok.hd hc) st (by have:n<=i:=hg;omega) λh' eb=>⟨rfl,I.turned (t':=s.toks) (λb o hb e=>eb b o hb e) f0 f1 f3 f4 f5⟩
 self:=λ_ _ _ _ _ st h=>wpAny_pyIter_rangeiter st h
section
variable{X:Cx}{tg:QL}
def QvW(K:PySem.W.Frag)(tl:TE):TI:=λσ H R=>tl σ H λx H1=>∃a,x=.ref a/\(∃xs,SqL K H1 a xs)/\R (Itl K a) H1
def Qxk(K:PySem.W.Frag)(tl:TE):TI:=λσ H R=>tl σ H λx H1=>∃a,x=.ref a/\(∃xs,SqT K H1 a xs)/\R (Itt K a) H1
theorem Qo8{l:QL}{tl:TE}(hl:PE X l tl):PI X tg l (QvW X.K tl):=by
 intro pins s σ H R I h;refine thn (hl pins s σ H _ I h) λv s1 ⟨x,H1,I1,r1,q1⟩=>?_
 obtain⟨a,e,⟨xs,hq⟩,q⟩:=q1;subst e;cases r1;obtain⟨its,rv,p,hz⟩:=I1.list hq;refine Qa1 p.isList ?_
 refine⟨s1.heap.objs.size,[s1.heap.objs.size],_,_,H1,rfl,I1.kept (t':=s1.toks) λb o e=>Qd _ e,QiN a _,⟨_,Qp _ rfl,rfl,rfl⟩,λb hb=>?_,q⟩;have e:b=s1.heap.objs.size:=by simpa using hb
 subst e;exact I1.fpOk (Ql _) (I1.hok.fresh (Ql _))
theorem QsG{l:QL}{tl:TE}(hl:PE X l tl):PI X tg l (Qxk X.K tl):=by
 intro pins s σ H R I h;refine thn (hl pins s σ H _ I h) λv s1 ⟨x,H1,I1,r1,q1⟩=>?_
 obtain⟨a,e,⟨xs,hq⟩,q⟩:=q1;subst e;cases r1;obtain⟨its,rv,p,hz⟩:=I1.tuple hq;refine Zz (show s1.heap.IsTuple a its.toArray from p) ?_
 refine⟨s1.heap.objs.size,[s1.heap.objs.size],_,_,H1,rfl,I1.kept (t':=s1.toks) λb o e=>Qd _ e,Qhw a _,⟨_,Qp _ rfl,rfl,rfl⟩,λb hb=>?_,q⟩;have e:b=s1.heap.objs.size:=by simpa using hb
 subst e;exact I1.fpOk (Ql _) (I1.hok.fresh (Ql _))
theorem QlS{pins:List (Addr×Obj)}{σ:St}{H:Hp}{s:Shared}{R:It->Hp->Prop}{E:Value->Shared->Prop}{lo hi:Int}{t u v:Tok}{tk:Nat}(I:Inv X pins σ H s)(h1 : -(2^62)<=lo)(h2:lo<2^62)(h3 : -(2^62)<=hi)(h4:hi<2^62)
  (q:R (Itr lo (hi - lo).toNat) H):wpAny (model X.prog X.w) X.A (pyIter (.ref s.heap.objs.size)) (PIE X pins σ tg R) E { s with heap:=s.heap.push { cls:=.type "range",data:=.fields #[.int lo t,.int hi u,.int 1 v] },toks:=tk }:=by
 refine wpAny_pyIter_range (IsRange.new ..) (small_one h1 h2 h3 h4) ?_
 have I1:Inv X pins σ H { s with heap:=s.heap.push { cls:=.type "range",data:=.fields #[.int lo t,.int hi u,.int 1 v] },toks:=tk }:=I.kept λb o e=>Qd _ e
 refine⟨(s.heap.push { cls:=.type "range",data:=.fields #[.int lo t,.int hi u,.int 1 v] }).objs.size,[(s.heap.push { cls:=.type "range",data:=.fields #[.int lo t,.int hi u,.int 1 v] }).objs.size],_,_,H,rfl,
  I1.kept (t':=tk) λb o e=>Qd _ e,Qhx _ lo (hi - lo).toNat,?_,λb hb=>?_,q⟩
 ·have e1:lo+((0:Nat):Int)*1=lo:=by simp
  have e2:(((hi - lo).toNat:Nat):Int) - ((0:Nat):Int)=Qu6 lo hi 1:=by rw[rangeSize_one];split<;>omega
  show IsRangeIter _ _ (lo+((0:Nat):Int)*1) ((((hi - lo).toNat:Nat):Int) - ((0:Nat):Int)) 1;rw[e1,e2];exact Qp _ rfl
 ·have e:b=(s.heap.push { cls:=.type "range",data:=.fields #[.int lo t,.int hi u,.int 1 v] }).objs.size:=by simpa using hb
  subst e;exact I1.fpOk (Ql _) (I1.hok.fresh (Ql _))
def QvV(ta:TA):TI:=λσ H R=>ta σ H λvs H1=>∃j:Int,vs=[.int j] /\ -(2^62)<=j/\j<2^62/\R (Itr 0 j.toNat) H1
theorem Qe9{a:QL}{ta:TA}{p pos:Pos}(hg:Gl X "range")(hm:X.mg "range" = none)(ha:PA X [a] ta)(hs:starEach [a] X.env=[(false,eval a X.env)]:=by rfl):PI X tg (.Call (.Name "range" p) [a] [] pos) (QvV ta):=by
 intro pins s σ H R I h;refine Call_ (Qbx I hg hm boot_range (JL (thn (ha pos pins s σ H _ I h) λus s1 ⟨vs,H1,I1,r1,q1⟩=>?_) hs rfl));obtain⟨j,e,q1,q2,q⟩:=q1;subst e;cases r1 with
 |cons r rr=>
  cases rr;obtain⟨t,rfl⟩:=r;exact call_range_1 (QlS I1 (by omega) (by omega) q1 q2 (by simpa using q))
def tFor(wi:TI)(g:TG)(tb:TS):TS:=λD σ H=>wi σ H λJ H1=>∃W:Nat->Nat->St->Hp->Prop,(∃m,W 0 m σ H1)/\∀i m σ H,W i m σ H ->
 (J.stop i H/\D.nx σ H)∨(J.go i H/\∃N:St->Hp->Prop,(∀σ' H',N σ' H'->∃m',m'<m/\W (i+1) m' σ' H')/\∀x H',J.yld i H x H'->g x σ H' λσ2 H2=>tb { D with nx:=N,ct:=N,bk:=D.nx } σ2 H2)
def QgU(fp:List Addr)(h:JM):List (Addr×Obj):=fp.filterMap λb=>(h.get? b).map λo=>(b,o)
theorem Z8{fp:List Addr}{h:JM}{b:Addr}{o:Obj}(hb:b∈fp)(e:h.get? b=some o):(b,o)∈QgU fp h:=Qcs.mpr ⟨b,hb,by rw[e];rfl⟩
theorem QjV{fp:List Addr}{h:JM}{p:Addr×Obj}(hp:p∈QgU fp h):p.1∈fp/\h.get? p.1=some p.2:=by
 obtain⟨b,hb,e⟩:=Qcs.mp hp;cases q:h.get? b with
 |none=>rw[q] at e;cases e
 |some o=>
  rw[q] at e;have e':(b,o)=p:=Qq e;subst e';exact⟨hb,q⟩
theorem Inv.pinned{pins:List (Addr×Obj)}{σ:St}{H:Hp}{s:Shared}{fp:List Addr}(I:Inv X pins σ H s)(hf:∀b∈fp,FpOk X pins H b)(ho:∀b∈fp,∃o,s.heap.get? b=some o/\∀v,o.data≠.cell v):Inv X (pins++QgU fp s.heap) σ H s:=
 I.pins_of λp hp=>(JY.mp hp).elim (λz=>I.pin p (QJ _ z)) λz=>by
  obtain⟨hb,e⟩:=QjV z;obtain⟨f0,f1,f2,_⟩:=hf p.1 hb;obtain⟨o,e',d⟩:=ho p.1 hb;rw[e] at e';cases e';exact⟨e,f0,f1,f2,d⟩
theorem Inv.unpinned{pins pl:List (Addr×Obj)}{σ:St}{H:Hp}{s:Shared}(I:Inv X (pins++pl) σ H s):Inv X pins σ H s:=I.pins_of λp hp=>I.pin p (QJ _ (QbG _ hp))
theorem QnP{iter:QL}{body:List ZA}{wi:TI}{g:TG}{tb:TS}{pos:Pos}(hp:PassesOwn (model X.prog X.w) X.A X.env X.xe)(hc:X.calm=true)(hi:PI X tg iter wi)(hg:PG X tg g)(hb:PSs X body tb)
  (hs:∀x,foldedSetIterable iter X.env x=pure x:=by intro _;rfl):PS X (.For tg iter body [] pos) (tFor wi g tb):=by
 intro pins s σ H D I h;refine wpAny_For (thn (hi pins s σ H _ I h) λv s1 h1=>thn h1 λitv s2 h2=>?_) hs;obtain⟨it,fp,tn,J,H2,e,I2,T,st2,f2,W,⟨m0,w0⟩,turn⟩:=h2;subst e;have stat:∀{H':Hp},(∀b∈fp,H' b=none)->∀b∈fp,FpOk X pins H' b:=λhn b hb=>⟨hn b hb,(f2 b hb).2⟩
 refine codeAny_forLoop_any (λn s'=>∃i σ' H',Inv X pins σ' H' s'/\tn i s'.heap/\(∀b∈fp,H' b=none)/\W i n σ' H') ?_ m0 ⟨0,σ,H2,I2,st2,λb hb=>(f2 b hb).1,w0⟩
 rintro n s3 ⟨i,σ3,H3,I3,st3,fr3,w3⟩;rcases turn i n σ3 H3 w3 with⟨stop,qn⟩ | ⟨go,N,hN,step⟩
 ·refine Qas hp (thn (T.done X rfl rfl rfl hc i pins s3 σ3 H3 X.xe I3 (stat fr3) st3 stop) λr s4 ⟨hr,I4⟩=>?_);subst hr;exact Qau ⟨σ3,H3,I4,qn⟩
 ·refine Qas hp (thn (T.item X rfl rfl rfl hc i pins s3 σ3 H3 X.xe I3 (stat fr3) st3 go) λr s4 ⟨u,hr,h4⟩=>?_);subst hr;refine Qas hp (thn h4 λ_ s5 ⟨x,H5,I5,r5,y5,st5,fr5⟩=>?_);have I5':=I5.pinned (stat fr5) (T.obj _ _ st5);refine Qas hp (thn (hg _ s5 σ3 H5 x u _ I5' r5 (step x H5 y5)) λ_ s6 ⟨σ6,H6,I6,q6⟩=>?_);refine Qas hp (thn (hb _ s6 σ6 H6 _ I6 q6) λf s7 q7=>?_);have again:∀{σ7:St}{H7:Hp},Inv X (pins++QgU fp s5.heap) σ7 H7 s7->N σ7 H7->∃m,m<n/\∃i σ' H',Inv X pins σ' H' s7/\tn i s7.heap/\(∀b∈fp,H' b=none)/\W i m σ' H':=λ{σ7 H7} I7 n7=>by
   obtain⟨m',hm,w7⟩:=hN σ7 H7 n7;refine⟨m',hm,i+1,σ7,H7,I7.unpinned,T.keep _ _ _ st5 λb hb o e=>(I7.pin (b,o) (QJ _ (QJ _ (Z8 hb e)))).1,λb hb=>?_,w7⟩;obtain⟨o,e,d⟩:=T.obj _ _ st5 b hb;exact(I7.pin (b,o) (QJ _ (QJ _ (Z8 hb e)))).2.1
  cases f with
  |next=>obtain⟨σ7,H7,I7,n7⟩:=q7;exact again I7 n7
  |cont=>obtain⟨σ7,H7,I7,n7⟩:=q7;exact again I7 n7
  |brk=>obtain⟨σ7,H7,I7,q7⟩:=q7;exact⟨σ7,H7,I7.unpinned,q7⟩
  |ret v=>obtain⟨x7,σ7,H7,I7,r7,q7⟩:=q7;exact⟨x7,σ7,H7,I7.unpinned,r7,q7⟩
end
theorem Qkv{lo:Int}{n:Nat}{g:TG}{tb:TS}{D:Ends}{σ:St}{H:Hp}(Pv:Nat->St->Hp->Prop)(h0:Pv 0 σ H)
  (hs:∀i σ H,i<n->Pv i σ H->g (.int (lo+i)) σ H λσ2 H2=>tb { D with nx:=Pv (i+1),ct:=Pv (i+1),bk:=D.nx } σ2 H2)(hd:∀σ H,Pv n σ H->D.nx σ H) :
  ∃W:Nat->Nat->St->Hp->Prop,(∃m,W 0 m σ H)/\∀i m σ H,W i m σ H ->
   ((Itr lo n).stop i H/\D.nx σ H)∨((Itr lo n).go i H/\∃N:St->Hp->Prop,(∀σ' H',N σ' H'->∃m',m'<m/\W (i+1) m' σ' H')/\∀x H',(Itr lo n).yld i H x H'->g x σ H' λσ2 H2=>tb { D with nx:=N,ct:=N,bk:=D.nx } σ2 H2):=by
 refine⟨λi m σ H=>m=n - i/\i<=n/\Pv i σ H,⟨n,by simp,Jx _,h0⟩,?_⟩;rintro i m σ H ⟨rfl,hi,p⟩;by_cases hlt:i<n
 ·refine .inr ⟨hlt,Pv (i+1),λσ' H' p'=>⟨n - (i+1),by omega,rfl,hlt,p'⟩,λx H' y=>?_⟩;obtain⟨e,y⟩:=y;subst e y;exact hs i σ _ hlt p
 ·have e:i=n:=by omega
  subst e;exact .inl ⟨Ql _,hd σ H p⟩
abbrev R2:=V->V->Hp->VK->Prop
def OpR(X:Cx)(f:Value->Value->Sem Value)(r:R2):Prop:=
 ∀(pins:List (Addr×Obj))(s:Shared)(σ:St)(H:Hp)(x y:V)(v u:Value)(Q:VK),Inv X pins σ H s->RelV x v->RelV y u->r x y H Q ->
  wpAny (model X.prog X.w) X.A (f v u) (EP X pins σ Q) X.xe s
def UnR(X:Cx)(f:Value->Sem Value)(r:V->Hp->VK->Prop):Prop:=
 ∀(pins:List (Addr×Obj))(s:Shared)(σ:St)(H:Hp)(x:V)(v:Value)(Q:VK),Inv X pins σ H s->RelV x v->r x H Q ->
  wpAny (model X.prog X.w) X.A (f v) (EP X pins σ Q) X.xe s
def CallR(X:Cx)(f:Value)(r:List V->Hp->VK->Prop):Prop:=
 ∀(pins:List (Addr×Obj))(s:Shared)(σ:St)(H:Hp)(xs:List V)(us:List Value)(Q:VK),Inv X pins σ H s->Vals xs us->r xs H Q ->
  wpAny (model X.prog X.w) X.A (call f us) (EP X pins σ Q) X.xe s
def Qxq(X:Cx)(r:V->Hp->(Bool->Hp->Prop)->Prop):Prop:=
 ∀(pins:List (Addr×Obj))(s:Shared)(σ:St)(H:Hp)(x:V)(v:Value)(Q:Bool->Hp->Prop),Inv X pins σ H s->RelV x v->r x H Q ->
  wpAny (model X.prog X.w) X.A (truthy v) (TP X pins σ Q) X.xe s
def tOp(r:R2)(ta tb:TE):TE:=λσ H Q=>ta σ H λx H1=>tb σ H1 λy H2=>r x y H2 Q
def tUn(r:V->Hp->VK->Prop)(ta:TE):TE:=λσ H Q=>ta σ H λx H1=>r x H1 Q
def rI(C:Int->Int->Prop)(g:Int->Int->V):R2:=λx y H Q=>∃i j,x=.int i/\y=.int j/\C i j/\Q (g i j) H
def rI0(g:Int->Int->V):R2:=λx y H Q=>∃i j,x=.int i/\y=.int j/\Q (g i j) H
def rU(g:Int->V):V->Hp->VK->Prop:=λx H Q=>∃i,x=.int i/\Q (g i) H
section
variable{X:Cx}{a b c:QL}{ta tb tc:TE}{pos:Pos}
theorem Qv5(ha:PE X a ta)(hb:PE X b tb){pins:List (Addr×Obj)}{s:Shared}{σ:St}{H:Hp}{R:V->V->Hp->Prop}(I:Inv X pins σ H s)
  (h:ta σ H λx H1=>tb σ H1 λy H2=>R x y H2){Q:Value->Shared->Prop}{f:Value->Value->Sem Value}
  (hf:∀v u s2 x y H2,Inv X pins σ H2 s2->RelV x v->RelV y u->R x y H2->wpAny (model X.prog X.w) X.A (f v u) Q X.xe s2) :
  wpAny (model X.prog X.w) X.A (eval a X.env) (λv s₁=>wpAny (model X.prog X.w) X.A (eval b X.env) (λu s₂=>wpAny (model X.prog X.w) X.A (f v u) Q X.xe s₂) X.xe s₁) X.xe s:=by
 refine thn (ha pins s σ H _ I h) λv s1 ⟨x,H1,I1,r1,q1⟩=>?_
 refine thn (hb pins s1 σ H1 _ I1 q1) λu s2 ⟨y,H2,I2,r2,q2⟩=>?_
 exact hf v u s2 x y H2 I2 r1 r2 q2
theorem Yr{op:Qd4}{r:R2}(ho:OpR X (binaryOp op) r)(ha:PE X a ta)(hb:PE X b tb):PE X (.BinOp a op b pos) (tOp r ta tb):=by
 intro pins s σ H Q I h;exact wpAny_BinOp (Qv5 ha hb I h λv u s2 x y H2 I2 rx ry q=>ho pins s2 σ H2 x y v u Q I2 rx ry q)
theorem Qvy{op:UnaryOp}{r:V->Hp->VK->Prop}(ho:UnR X (unaryOp op) r)(ha:PE X a ta):PE X (.UnaryOp op a pos) (tUn r ta):=by
 intro pins s σ H Q I h;exact UnaryOp_ (thn (ha pins s σ H _ I h) λv s1 ⟨x,H1,I1,r1,q1⟩=>ho pins s1 σ H1 x v Q I1 r1 q1)
theorem opI{f:Value->Value->Sem Value}{C:Int->Int->Prop}{g:Int->Int->Int}
  (rule:∀(i j:Int)(t u:Tok)(s:Shared)(Q:Value->Shared->Prop)(E:Value->Shared->Prop),C i j->Q (.int (g i j) s.toks) { s with toks:=s.toks+1 }->wpAny (model X.prog X.w) X.A (f (.int i t) (.int j u)) Q E s) :
  OpR X f (rI C λi j=>.int (g i j)):=by
 intro pins s σ H x y v u Q I rx ry h;obtain⟨i,j,rfl,rfl,hc,q⟩:=h;obtain⟨t,rfl⟩:=rx;obtain⟨t',rfl⟩:=ry;exact rule i j t t' s _ _ hc ⟨.int (g i j),H,I.tok _,⟨_,rfl⟩,q⟩
theorem Qws{f:Value->Value->Sem Value}{g:Int->Int->Int}
  (rule:∀(i j:Int)(t u:Tok)(s:Shared)(Q:Value->Shared->Prop)(E:Value->Shared->Prop),Q (.int (g i j) s.toks) { s with toks:=s.toks+1 }->wpAny (model X.prog X.w) X.A (f (.int i t) (.int j u)) Q E s) :
  OpR X f (rI0 λi j=>.int (g i j)):=by
 intro pins s σ H x y v u Q I rx ry h;obtain⟨i,j,rfl,rfl,q⟩:=h;obtain⟨t,rfl⟩:=rx;obtain⟨t',rfl⟩:=ry;exact rule i j t t' s _ _ ⟨.int (g i j),H,I.tok _,⟨_,rfl⟩,q⟩
theorem Qux{f:Value->Value->Sem Value}{g:Int->Int->Bool}
  (rule:∀(i j:Int)(t u:Tok)(s:Shared)(Q:Value->Shared->Prop)(E:Value->Shared->Prop),Q (.bool (g i j)) s->wpAny (model X.prog X.w) X.A (f (.int i t) (.int j u)) Q E s) :
  OpR X f (rI0 λi j=>.bl (g i j)):=by
 intro pins s σ H x y v u Q I rx ry h;obtain⟨i,j,rfl,rfl,q⟩:=h;obtain⟨t,rfl⟩:=rx;obtain⟨t',rfl⟩:=ry;exact rule i j t t' s _ _ ⟨.bl (g i j),H,I,rfl,q⟩
def Qwb(i j:Int):Prop:=0<=j/\j<=1000000/\i.natAbs<2^64
def CMul(i j:Int):Prop:=(-(2^64)<i/\i<2^64)∨(-(2^64)<j/\j<2^64)
theorem CMul.ok{i j:Int}(h:CMul i j):IntMulOk i j:=by
 rcases h with⟨h1,h2⟩ | ⟨h1,h2⟩
 ·exact .of_left (intBits_le_64 h1 h2)
 ·exact .of_right (intBits_le_64 h1 h2)
theorem QdK:OpR X (binaryOp .Add) (rI0 λi j=>.int (i+j)):=Qws λ_ _ _ _ _ _ _ q=>add_int q
theorem Qfc:OpR X (binaryOp .Sub) (rI0 λi j=>.int (i - j)):=Qws λ_ _ _ _ _ _ _ q=>sub_int q
theorem QdJ:OpR X (binaryOp .Mult) (rI CMul λi j=>.int (i*j)):=opI λ_ _ _ _ _ _ _ hc q=>mul_int q hc.ok
theorem QgZ:OpR X (binaryOp .Mod) (rI (λ_ j=>0<j) λi j=>.int (i % j)):=opI λi j _ _ _ _ _ hc q=>by
 have h1:(0:Int)<j:=hc;exact mod_int' (by omega) (by rw[Int.fmod_eq_emod_of_nonneg i (by omega)];exact q)
theorem QgY:OpR X (binaryOp .Pow) (rI Qwb λi j=>.int (i^j.toNat)):=opI λ_ _ _ _ _ _ _ hc q=>pow_int_small hc.1 hc.2.1 hc.2.2 q
theorem unI{f:Value->Sem Value}{g:Int->Int}
  (rule:∀(i:Int)(t:Tok)(s:Shared)(Q:Value->Shared->Prop)(E:Value->Shared->Prop),Q (.int (g i) s.toks) { s with toks:=s.toks+1 }->wpAny (model X.prog X.w) X.A (f (.int i t)) Q E s) :
  UnR X f (rU λi=>.int (g i)):=by
 intro pins s σ H x v Q I rx h;obtain⟨i,rfl,q⟩:=h;obtain⟨t,rfl⟩:=rx;exact rule i t s _ _ ⟨.int (g i),H,I.tok _,⟨_,rfl⟩,q⟩
theorem Qr5:UnR X (unaryOp .USub) (rU λi=>.int (-i)):=unI λ_ _ _ _ _ q=>neg_int q
end
def scal:V->V->Bool
 |.non,.non=>true | .non,.int _=>true | .int _,.non=>true | .non,.bl _=>true | .bl _,.non=>true | .non,.str _=>true | .str _,.non=>true
 |.int _,.int _=>true | .bl _,.bl _=>true | .str _,.str _=>true | .byt _,.byt _=>true
 |.int _,.str _=>true | .str _,.int _=>true | .bl _,.str _=>true | .str _,.bl _=>true
 |_,_=>false
def rEq:R2:=λx y H Q=>scal x y=true/\Q (.bl (decide (x=y))) H
def rNe:R2:=λx y H Q=>scal x y=true/\Q (.bl (!decide (x=y))) H
theorem QkC{i j:Int}:decide (V.int i=V.int j)=(i == j):=by
 rw[Yl];simp
theorem Qn5{i j:Bool}:decide (V.bl i=V.bl j)=(i == j):=by
 rw[Yl];simp
theorem QkB{i j:Str}:decide (V.str i=V.str j)=(i == j):=by
 rw[Yl];simp
theorem QkD{i j:Array UInt8}:decide (V.byt i=V.byt j)=(i.toList == j.toList):=by
 rw[Yl];cases i;cases j;simp
section
variable{X:Cx}{a b c:QL}{ta tb tc:TE}{pos:Pos}
theorem Zg{pins:List (Addr×Obj)}{σ:St}{H:Hp}{s:Shared}{Q:VK}{k k':Bool}(I:Inv X pins σ H s)(q:Q (.bl k) H)(e:k=k'):EP X pins σ Q (.bool k') s:=by
 subst e;exact⟨.bl k,H,I,rfl,q⟩
theorem QvH:OpR X (compareOp .Eq) rEq:=by
 intro pins s σ H x y v u Q I rx ry h;obtain⟨hs,q⟩:=h;cases x with
 |non=>
  cases rx;cases y with
  |non=>cases ry;exact PySem.EqNone.eq_none_none (Zg I q (by simp))
  |bl j=>cases ry;exact PySem.EqNone.eq_none_bool (Zg I q (by simp))
  |int j=>obtain⟨t',rfl⟩:=ry;exact PySem.EqNone.eq_none_int (Zg I q (by simp))
  |str j=>obtain⟨t',rfl⟩:=ry;exact PySem.EqNone.eq_none_str (Zg I q (by simp))
  |_=>exact absurd (show false=true from hs) Qr
 |bl i=>
  cases rx;cases y with
  |non=>cases ry;exact PySem.EqNone.eq_bool_none (Zg I q (by simp))
  |bl j=>cases ry;exact eq_bool (Zg I q Qn5)
  |str j=>obtain⟨t',rfl⟩:=ry;exact PySem.EqMixed.eq_bool_str (Zg I q (by simp))
  |_=>exact absurd (show false=true from hs) Qr
 |int i=>
  obtain⟨t,rfl⟩:=rx;cases y with
  |non=>cases ry;exact PySem.EqNone.eq_int_none (Zg I q (by simp))
  |int j=>obtain⟨t',rfl⟩:=ry;exact eq_int (Zg I q QkC)
  |str j=>obtain⟨t',rfl⟩:=ry;exact PySem.EqMixed.eq_int_str (Zg I q (by simp))
  |_=>exact absurd (show false=true from hs) Qr
 |str i=>
  obtain⟨t,rfl⟩:=rx;cases y with
  |non=>cases ry;exact PySem.EqNone.eq_str_none (Zg I q (by simp))
  |bl j=>cases ry;exact PySem.EqMixed.eq_str_bool (Zg I q (by simp))
  |int j=>obtain⟨t',rfl⟩:=ry;exact PySem.EqMixed.eq_str_int (Zg I q (by simp))
  |str j=>obtain⟨t',rfl⟩:=ry;exact eq_str (Zg I q QkB)
  |_=>exact absurd (show false=true from hs) Qr
 |byt i=>
  obtain⟨t,rfl⟩:=rx;cases y with
  |byt j=>obtain⟨t',rfl⟩:=ry;exact PySem.W.eq_bytes (Zg I q QkD)
  |_=>exact absurd (show false=true from hs) Qr
 |_=>cases y<;>exact absurd (show false=true from hs) Qr
theorem Qs8:OpR X (compareOp .NotEq) rNe:=by
 intro pins s σ H x y v u Q I rx ry h;obtain⟨hs,q⟩:=h;cases x with
 |non=>
  cases rx;cases y with
  |non=>cases ry;exact PySem.EqNone.ne_none_none (Zg I q (by simp))
  |bl j=>cases ry;exact PySem.EqNone.ne_none_bool (Zg I q (by simp))
  |int j=>obtain⟨t',rfl⟩:=ry;exact PySem.EqNone.ne_none_int (Zg I q (by simp))
  |str j=>obtain⟨t',rfl⟩:=ry;exact PySem.EqNone.ne_none_str (Zg I q (by simp))
  |_=>exact absurd (show false=true from hs) Qr
 |bl i=>
  cases rx;cases y with
  |non=>cases ry;exact PySem.EqNone.ne_bool_none (Zg I q (by simp))
  |bl j=>cases ry;exact ne_bool (Zg I q (congrArg not Qn5))
  |str j=>obtain⟨t',rfl⟩:=ry;exact PySem.EqMixed.ne_bool_str (Zg I q (by simp))
  |_=>exact absurd (show false=true from hs) Qr
 |int i=>
  obtain⟨t,rfl⟩:=rx;cases y with
  |non=>cases ry;exact PySem.EqNone.ne_int_none (Zg I q (by simp))
  |int j=>obtain⟨t',rfl⟩:=ry;exact ne_int (Zg I q (congrArg not QkC))
  |str j=>obtain⟨t',rfl⟩:=ry;exact PySem.EqMixed.ne_int_str (Zg I q (by simp))
  |_=>exact absurd (show false=true from hs) Qr
 |str i=>
  obtain⟨t,rfl⟩:=rx;cases y with
  |non=>cases ry;exact PySem.EqNone.ne_str_none (Zg I q (by simp))
  |bl j=>cases ry;exact PySem.EqMixed.ne_str_bool (Zg I q (by simp))
  |int j=>obtain⟨t',rfl⟩:=ry;exact PySem.EqMixed.ne_str_int (Zg I q (by simp))
  |str j=>obtain⟨t',rfl⟩:=ry;exact ne_str (Zg I q (congrArg not QkB))
  |_=>exact absurd (show false=true from hs) Qr
 |byt i=>
  obtain⟨t,rfl⟩:=rx;cases y with
  |byt j=>obtain⟨t',rfl⟩:=ry;exact PySem.W.ne_bytes (Zg I q (congrArg not QkD))
  |_=>exact absurd (show false=true from hs) Qr
 |_=>cases y<;>exact absurd (show false=true from hs) Qr
theorem QpC:OpR X (compareOp .Lt) (rI0 λi j=>.bl (decide (i<j))):=Qux λ_ _ _ _ _ _ _ q=>lt_int q
theorem Qgc:OpR X (compareOp .LtE) (rI0 λi j=>.bl (decide (i<=j))):=Qux λ_ _ _ _ _ _ _ q=>le_int q
theorem Qtd:OpR X (compareOp .Gt) (rI0 λi j=>.bl (decide (j<i))):=Qux λ_ _ _ _ _ _ _ q=>gt_int q
theorem QpE:OpR X (compareOp .GtE) (rI0 λi j=>.bl (decide (j<=i))):=Qux λ_ _ _ _ _ _ _ q=>ge_int q
def isObj:HO->Bool
 |.lst _=>true
 |.ins _ _ _=>true
 |_=>false
theorem obj_there{pins:List (Addr×Obj)}{s:Shared}{σ:St}{H:Hp}{a:Addr}{o:HO}(I:Inv X pins σ H s)(h:H a=some o)(p:isObj o=true):∃ob,s.heap.get? a=some ob/\ob.cls≠.type "tuple" := by
 cases o with
 |lst xs=>
  obtain⟨_,its,n,_,e⟩:xs.length<=sizeLine/\∃(its:List Value)(n:Nat),Vals xs its/\s.heap.get? a=some { cls:=.type "list",data:=.seq its.toArray n }:=I.hok a _ h
  exact⟨_,e,(by show QcG "list" ≠ .type "tuple";decide +kernel)⟩
 |ins C dx fs=>
  have x:=I.hok a _ h;obtain⟨_,_,_,e,_⟩:=x;exact⟨_,e,(by show JG C≠.type "tuple";exact λz=>by cases z)⟩
 |_=>exact absurd (show false=true from p) Qr
theorem OpR.or{f:Value->Value->Sem Value}{r r':R2}(h:OpR X f r)(h':OpR X f r'):OpR X f (λx y H Q=>r x y H Q∨r' x y H Q):=by
 intro pins s σ H x y v u Q I rx ry q;rcases q with q | q
 ·exact h pins s σ H x y v u Q I rx ry q
 ·exact h' pins s σ H x y v u Q I rx ry q
theorem Zv(b:QL){op:Qhu}(h:op≠.In:=by decide)(h2:op≠.NotIn:=by decide):behindInMarks op b=false:=by
 have e1:(op == CmpOp.In)=false:=by cases op<;>first | rfl | exact absurd rfl h
 have e2:(op == CmpOp.NotIn)=false:=by cases op<;>first | rfl | exact absurd rfl h2
 cases b<;>simp[behindInMarks,e1,e2]
theorem Qpd{op:Qhu}{r:R2}(ho:OpR X (compareOp op) r)(ha:PE X a ta)(hb:PE X b tb)(hm:behindInMarks op b=false):PE X (.Compare a [op] [b] pos) (tOp r ta tb):=by
 intro pins s σ H Q I h;exact wpAny_Compare1 (Qv5 ha hb I h λv u s2 x y H2 I2 rx ry q=>ho pins s2 σ H2 x y v u Q I2 rx ry q) hm
def Qsc(t:TE):TT:=λσ H Q=>t σ H λx H'=>∃k,x=.bl k/\Q k H'
theorem Qem{op:Qhu}{r:R2}(ho:OpR X (compareOp op) r)(ha:PE X a ta)(hb:PE X b tb)(hm:behindInMarks op b=false):PT X (.Compare a [op] [b] pos) (Qsc (tOp r ta tb)):=by
 intro pins s σ H Q I h;refine wpAny_isTrue_Compare1 (thn (ha pins s σ H _ I h) λv s1 ⟨x,H1,I1,r1,q1⟩=>thn (hb pins s1 σ H1 _ I1 q1) λu s2 ⟨y,H2,I2,r2,q2⟩=>
  thn (ho pins s2 σ H2 x y v u _ I2 r1 r2 q2) λc s3 ⟨z,H3,I3,r3,k,e,q3⟩=>?_) hm
 subst e;cases r3;exact Jy ⟨H3,I3,q3⟩
def QiY(r r':R2)(ta tb tc:TE):TE:=λσ H Q=>ta σ H λx H1=>tb σ H1 λy H2=>r x y H2 λz H3=>∃k,z=.bl k /\
 (if k=true then tc σ H3 λw' H4=>r' y w' H4 Q else Q (.bl false) H3)
theorem Ql9{op op':Qhu}{r r':R2}(ho:OpR X (compareOp op) r)(ho':OpR X (compareOp op') r')(ha:PE X a ta)(hb:PE X b tb)(hc:PE X c tc)
  (hm:lastMarks [op,op'] [b,c]=false:=by with_unfolding_all rfl):PE X (.Compare a [op,op'] [b,c] pos) (QiY r r' ta tb tc):=by
 intro pins s σ H Q I h;refine Compare_chain (thn (ha pins s σ H _ I h) λv s1 ⟨x,H1,I1,r1,q1⟩=>chain_link (thn (hb pins s1 σ H1 _ I1 q1) λu s2 ⟨y,H2,I2,r2,q2⟩=>
  thn (ho pins s2 σ H2 x y v u _ I2 r1 r2 q2) λd s3 ⟨z,H3,I3,r3,k,e,q3⟩=>?_)) hm
 subst e;cases r3;refine Jy ?_
 cases k with
 |false=>exact ite_ff ⟨.bl false,H3,I3,rfl,q3⟩
 |true=>exact ite_tt (chain_last (thn (hc pins s3 σ H3 _ I3 q3) λw' s4 ⟨z',H4,I4,r4,q4⟩=>ho' pins s4 σ H4 y z' u w' Q I4 r2 r4 q4))
theorem QlX{op op':Qhu}{r r':R2}(ho:OpR X (compareOp op) r)(ho':OpR X (compareOp op') r')(ha:PE X a ta)(hb:PE X b tb)(hc:PE X c tc)
  (hm:lastMarks [op,op'] [b,c]=false:=by with_unfolding_all rfl):PT X (.Compare a [op,op'] [b,c] pos) (Qsc (QiY r r' ta tb tc)):=by
 intro pins s σ H Q I h;refine isTrue_chain (thn (ha pins s σ H _ I h) λv s1 ⟨x,H1,I1,r1,q1⟩=>test_link (thn (hb pins s1 σ H1 _ I1 q1) λu s2 ⟨y,H2,I2,r2,q2⟩=>
  thn (ho pins s2 σ H2 x y v u _ I2 r1 r2 q2) λd s3 ⟨z,H3,I3,r3,k,e,q3⟩=>?_)) hm
 subst e;cases r3;refine Jy ?_
 cases k with
 |false=>
  obtain⟨k',e',q'⟩:=q3;cases e';exact ite_ff ⟨H3,I3,q'⟩
 |true=>
  refine ite_tt (test_last (thn (hc pins s3 σ H3 _ I3 q3) λw' s4 ⟨z',H4,I4,r4,q4⟩=>thn (ho' pins s4 σ H4 y z' u w' _ I4 r2 r4 q4) λd' s5 ⟨z2,H5,I5,r5,k2,e2,q5⟩=>?_));subst e2;cases r5;exact Jy ⟨H5,I5,q5⟩
def Qv6(K:PySem.W.Frag)(x:V)(H:Hp)(k:Bool):Prop:=
 match x with
 |.non=>k=false
 |.bl b=>k=b
 |.int i=>k=(i != 0)
 |.str y=>y.length<=sizeLine/\k=((y.length:Int) != 0)
 |.byt y=>y.size<=sizeLine/\k=((y.size:Int) != 0)
 |.ref p=>(∃xs,SqL K H p xs/\k = !xs.isEmpty)∨(∃xs,SqT K H p xs/\k = !xs.isEmpty)∨∃kvs,H p=some (.dK kvs)/\k = !kvs.isEmpty
 |_=>False
theorem Qh0{κ:Type}{kvs:List (κ×V)}{vs:List (κ×Value)}(r:KV kvs vs):(!vs.isEmpty) = !kvs.isEmpty:=by
 cases r<;>rfl
theorem QdQ{xs:List V}{its:List Value}(r:Vals xs its):(!its.toArray.isEmpty) = !xs.isEmpty:=by
 cases r<;>simp
theorem QdP:(sizeLine:Nat)<2^63:=by rw[Qhn];decide
theorem Qr8:Qxq X (λx H Q=>∃k,Qv6 X.K x H k/\Q k H):=by
 intro pins s σ H x v Q I rx h;obtain⟨k,e,q⟩:=h;have hl:=QdP;have hs:sizeLine=16777216:=Qhn;cases x with
 |non=>
  cases rx;have e':k=false:=e;subst e';exact truthy_none ⟨H,I,q⟩
 |bl b=>
  cases rx;have e':k=b:=e;subst e';exact Jy ⟨H,I,q⟩
 |int i=>
  obtain⟨t,rfl⟩:=rx;have e':k=(i != 0):=e;subst e';exact PySem.P.truthy_int ⟨H,I,q⟩
 |str y=>
  obtain⟨t,rfl⟩:=rx;obtain⟨hy,e'⟩:y.length<=sizeLine/\k=((y.length:Int) != 0):=e;subst e';exact PySem.P.truthy_str (by omega) ⟨H,I.tok _,q⟩
 |byt y=>
  obtain⟨t,rfl⟩:=rx;obtain⟨hy,e'⟩:y.size<=sizeLine/\k=((y.size:Int) != 0):=e;subst e';exact PySem.W.truthy_bytes (by omega) ⟨H,I.tok _,q⟩
 |ref p=>
  cases rx;have e':(∃xs,SqL X.K H p xs/\k = !xs.isEmpty)∨(∃xs,SqT X.K H p xs/\k = !xs.isEmpty)∨∃kvs,H p=some (.dK kvs)/\k = !kvs.isEmpty:=e
  rcases e' with⟨xs,hx,e'⟩ | ⟨xs,hx,e'⟩ | ⟨kvs,hx,e'⟩
  ·subst e';obtain⟨its,r,pl,hz⟩:=I.list hx;have hlen:=r.length;exact wpAny_truthy_list pl.isList (by simp only[Qo];omega) ⟨H,I.tok _,by rw[QdQ r];exact q⟩
  ·subst e';obtain⟨its,r,pl,hz⟩:=I.tuple hx;have hlen:=r.length;exact truthy_tuple pl (by simp only[Qo];omega) ⟨H,I.tok _,by rw[QdQ r];exact q⟩
  ·subst e';obtain⟨hz,hS,vs,r,m⟩:kvs.length<=sizeLine/\(p == sysModules)=false/\∃vs,KV kvs vs/\s.heap.DictOf (mixKind X.prog X.w) p vs:=I.hok p _ hx
   have hlen:kvs.length=vs.length:=QrI r;exact wpAny_truthy_dict hS m (by omega) ⟨H,I.tok _,by rw[Qh0 r];exact q⟩
 |_=>exact(show False from e).elim
theorem QlW(ha:PE X a ta)(he:∀whole,isTrue a X.env whole=(do let v <- whole;standAt a.pos;holding [v] (truthy v))) :
  PT X a (λσ H Q=>ta σ H λx H'=>∃k,Qv6 X.K x H' k/\Q k H'):=by
 intro pins s σ H Q I h;exact isTrue_plain (thn (ha pins s σ H _ I h) λv s1 ⟨x,H1,I1,r1,q1⟩=>Qr8 pins s1 σ H1 x v Q I1 r1 q1) (he _)
theorem vals1{x:V}{us:List Value}(r:Vals [x] us):∃u,us=[u]/\RelV x u:=by
 cases r with
 |cons r1 r2=>cases r2;exact⟨_,rfl,r1⟩
theorem vals2{x y:V}{us:List Value}(r:Vals [x,y] us):∃u w',us=[u,w']/\RelV x u/\RelV y w':=by
 cases r with
 |cons r1 r2=>
  cases r2 with
  |cons r3 r4=>cases r4;exact⟨_,_,rfl,r1,r3⟩
theorem Qfw(hc:X.calm=true):CallR X (.builtin "max") (λxs H Q=>∃i j,xs=[.int i,.int j]/\Q (.int (if j > i then j else i)) H):=by
 intro pins s σ H xs us Q I r h;obtain⟨i,j,rfl,q⟩:=h;obtain⟨u,w',rfl,⟨t,rfl⟩,⟨t',rfl⟩⟩:=vals2 r;refine max_two_ints (I.ok.hd hc) λh' tk k=>⟨_,H,I.kept k,?_,q⟩
 by_cases hj:j > i
 ·rw[if_pos hj,if_pos hj];exact⟨_,rfl⟩
 ·rw[if_neg hj,if_neg hj];exact⟨_,rfl⟩
theorem Qfv(hc:X.calm=true):CallR X (.builtin "min") (λxs H Q=>∃i j,xs=[.int i,.int j]/\Q (.int (if j<i then j else i)) H):=by
 intro pins s σ H xs us Q I r h;obtain⟨i,j,rfl,q⟩:=h;obtain⟨u,w',rfl,⟨t,rfl⟩,⟨t',rfl⟩⟩:=vals2 r;refine min_two_ints (I.ok.hd hc) λh' tk k=>⟨_,H,I.kept k,?_,q⟩
 by_cases hj:j<i
 ·rw[if_pos hj,if_pos hj];exact⟨_,rfl⟩
 ·rw[if_neg hj,if_neg hj];exact⟨_,rfl⟩
theorem QkW:CallR X (.type "int") (λxs H Q=>(∃i,xs=[.int i]/\Q (.int i) H)∨∃k,xs=[.bl k]/\Q (.int (if k then 1 else 0)) H):=by
 intro pins s σ H xs us Q I r h;rcases h with⟨i,rfl,q⟩ | ⟨k,rfl,q⟩
 ·obtain⟨u,rfl,t,rfl⟩:=vals1 r;exact call_int_int ⟨.int i,H,I,⟨_,rfl⟩,q⟩
 ·obtain⟨u,rfl,r1⟩:=vals1 r;cases r1;exact call_int_bool ⟨.int (if k then 1 else 0),H,I.tok _,⟨_,rfl⟩,q⟩
end
structure ObjM (h:JM) (x dx C:Addr) (mA:Str->Option Value):Prop where
 obj:h.get? x=some (PySem.W.instObj C dx)
 ns:h.Ns1 dx mA
 ne:dx≠x
theorem Qka{h:JM}{dx:Addr}{mA:Str->Option Value}(n:h.Ns1 dx mA):∃od,h.get? dx=some od/\∀name,PySem.W.lookIn name od=some (mA name):=by
 obtain⟨o,es,ep,ho,hd,hk,_,hm⟩:=n;refine⟨o,ho,λname=>?_⟩;have e:=hm name;unfold nsFind findBy at e;rw[<- Array.find?_toList] at e;unfold PySem.W.lookIn;rw[hd]
 dsimp only
 split
 ·rename_i y q
  rw[q] at e;exact congrArg some e
 ·rename_i q
  rw[q] at e;have a:es.toList.any (·.refKey)=false:=by
   rw[List.any_eq_false];intro y hy;obtain⟨z,t,hkey⟩:=hk y (Qis.mp hy);simp[DictEntry.refKey,hkey]
  have a':¬es.toList.any (·.refKey)=true:=by rw[a];exact Qr
  rw[if_neg a'];exact congrArg some e
theorem ObjM.look{h:JM}{x dx C:Addr}{mA:Str->Option Value}(I:ObjM h x dx C mA):∃od,PySem.W.InstAt h x (PySem.W.instObj C dx) C (some od)/\∀name,PySem.W.lookIn name od=some (mA name):=
 let ⟨od,ho,hl⟩:=Qka I.ns
 ⟨od,⟨I.obj,rfl,rfl,ho⟩,hl⟩
section
variable{prog:QD}{w:Je}{A:Q5}{E:Value->Shared->Prop}{s:Shared}{K:PySem.W.Frag}{x dx C f:Addr}{mA:Str->Option Value}{name:Str}{v:Value}
end
section
variable{P:QD}{w:Je}{H H':Hp}{h h':JM}{a C dx:Addr}{fs fs':List (Str×V)}
theorem Qrc(hok:HOk P w H h)(e:H a=some (.ins C dx fs)):∃mA,ObjM h a dx C mA/\(∀f,Qv7 (fs.lookup f) (mA f))/\PySem.Within mA (fs.map (·.1))/\fs.length<=1000/\H dx=some (.own a):=by
 obtain⟨d,z,ne,ob,mA,n,r,q⟩:=(show ObjOk P w H h a (.ins C dx fs) from hok a _ e);exact⟨mA,⟨ob,n,ne⟩,r,q,z,d⟩
end
structure Cls (K:PySem.W.Frag) (C:Addr):Prop where
 pg:PySem.W.plainGet K C Str.empty=true
 hd:PySem.W.hasDictIn K C=true
 po:PySem.W.plainOver K C=true
 sa:PySem.W.findIn K (.ref C) "__setattr__" = some (some (.builtin "object.__setattr__"))
theorem Cls.get{K:PySem.W.Frag}{C:Addr}(c:Cls K C)(f:Str):PySem.W.plainGet K C f=true:=c.pg
section
variable{X:Cx}{pins:List (Addr×Obj)}{σ:St}{H:Hp}{s:Shared}{a C dx:Addr}{fs:List (Str×V)}{f:Str}{v:V}{A:Q5}{E:Value->Shared->Prop}
end
section
variable{X:Cx}{o e value:QL}{f:Str}{pos pos' tpos:Pos}{ta tv:TE}
def rAdd:V->V->Hp->VK->Prop:=λx y H Q=>∃i j,x=.int i/\y=.int j/\Q (.int (i+j)) H
end
section
variable{X:Cx}{pins:List (Addr×Obj)}{σ:St}{H:Hp}{s:Shared}{A:Q5}{E:Value->Shared->Prop}{Q:Value->Shared->Prop}{c:Value}{b:Bool}
inductive TyOf (K:PySem.W.Frag) (H:Hp):V->Value->Prop where
 |non:TyOf K H .non (.type "NoneType")
 |bl (x:Bool):TyOf K H (.bl x) (.type "bool")
 |int (i:Int):TyOf K H (.int i) (.type "int")
 |str (x:Str):TyOf K H (.str x) (.type "str")
 |flt (x:UInt64):TyOf K H (.flt x) (.type "float")
 |lst {a:Addr} {xs:List V} (e:H a=some (.lst xs)):TyOf K H (.ref a) (.type "list")
 |frz {a:Addr} {o:Obj} {xs:List V} (e:H a=some (.frz o (.lst xs))):TyOf K H (.ref a) (.type "list")
 |tup {a:Addr} {xs:List V} (e:H a=some (.tup xs)):TyOf K H (.ref a) (.type "tuple")
 |dK {a:Addr} {kvs:List (Key×V)} (e:H a=some (.dK kvs)):TyOf K H (.ref a) (.type "dict")
 |dT {a:Addr} {kvs:List (List Key×V)} (e:H a=some (.dT kvs)):TyOf K H (.ref a) (.type "dict")
 |ins {a C dx:Addr} {fs:List (Str×V)} (e:H a=some (.ins C dx fs)) (cl:Cls K C) (ha:PySem.W.findIn K (.ref C) "__class__" = some (some (.builtin "object.__class__")))
   (hn:PySem.W.specialIn K (.builtin "object.__class__") "__get__" = some (some (.builtin "getset_descriptor.__get__"))) (htk:PySem.W.takesIn K (.builtin "object.__class__")=some true)
   (hm:PySem.W.mroIn K C (.type "object")=some true):TyOf K H (.ref a) (.ref C)
theorem Qkj{x:V}{u t:Value}(I:Inv X pins σ H s)(rx:RelV x u)(ty:TyOf X.K H x t)(e:PySem.W.kitOne X.K t c=some b)(h:∀tk,Q (.bool b) { s with toks:=tk }) :
  wpAny (model X.prog X.w) A (call (.builtin "isinstance") [u,c]) Q E s:=by
 cases ty with
 |non=>cases(show u=Ye from rx);exact PySem.W.kia_one PySem.W.kitx_none I.kIn Qbg e (λz=>nomatch z) h
 |bl y=>cases(show u=Zo y from rx);exact PySem.W.kia_one PySem.W.kitx_bool I.kIn Qbg e (λz=>nomatch z) h
 |int i=>obtain⟨t,q⟩:=(show ∃t,u=Qol i t from rx);cases q;exact PySem.W.kia_one PySem.W.kitx_int I.kIn Qbg e (λz=>nomatch z) h
 |str y=>obtain⟨t,q⟩:=(show ∃t,u=Qok y t from rx);cases q;exact PySem.W.kia_one PySem.W.kitx_str I.kIn Qbg e (λz=>nomatch z) h
 |flt y=>obtain⟨t,q⟩:=(show ∃t,u=QuL y t from rx);cases q;exact PySem.W.kia_one PySem.W.kitx_float I.kIn Qbg e (λz=>nomatch z) h
 |@lst a xs ea=>
  cases(show u=JG a from rx);obtain⟨_,_,n,_,h1⟩:=(show ObjOk X.prog X.w H s.heap a (.lst xs) from I.hok a _ ea);exact PySem.W.kia_one PySem.W.kitx_list I.kIn ⟨_,h1,rfl⟩ e (λz=>nomatch z) h
 |@frz a ob xs ea=>
  cases(show u=JG a from rx);obtain⟨_,_,_,n,_,h1⟩:=(show ObjOk X.prog X.w H s.heap a (.frz ob (.lst xs)) from I.hok a _ ea);exact PySem.W.kia_one PySem.W.kitx_list I.kIn ⟨_,h1,rfl⟩ e (λz=>nomatch z) h
 |@tup a xs ea=>
  cases(show u=JG a from rx);obtain⟨_,_,_,p⟩:=(show ObjOk X.prog X.w H s.heap a (.tup xs) from I.hok a _ ea);obtain⟨o,h1,h2,_⟩:=p;exact PySem.W.kia_one PySem.W.kitx_tuple I.kIn ⟨o,h1,h2⟩ e (λz=>nomatch z) h
 |@dK a kvs ea=>
  cases(show u=JG a from rx);obtain⟨_,_,vs,_,p⟩:=(show ObjOk X.prog X.w H s.heap a (.dK kvs) from I.hok a _ ea);obtain⟨o,es,ep,h1,h2,_⟩:=p;exact PySem.W.kia_one PySem.W.kitx_dict I.kIn ⟨o,h1,h2.1⟩ e (λz=>nomatch z) h
 |@dT a kvs ea=>
  cases(show u=JG a from rx);obtain⟨_,_,xs,_,o,es,ep,h1,h2,_⟩:=(show ObjOk X.prog X.w H s.heap a (.dT kvs) from I.hok a _ ea);exact PySem.W.kia_one PySem.W.kitx_dict I.kIn ⟨o,h1,h2.1⟩ e (λz=>nomatch z) h
 |@ins a C dx fs ea cl ha hn htk hm=>
  cases(show u=JG a from rx);obtain⟨mA,O,_⟩:=Qrc I.hok ea;obtain⟨od,J,_⟩:=O.look;exact PySem.W.kia_one (PySem.W.kitx_own (cl.get _) cl.hd ha hn htk hm) I.kIn J e (λz=>nomatch z) h
end
structure Room (k:Nat) (A:Q5):Prop where
 hd:A.handled=none
 dp:A.depth+3*k+5<recursionLimit
 un:A.units+16*k+200<cLine
theorem Room.mono{j k:Nat}{A:Q5}(r:Room k A)(h:j<=k):Room j A:=⟨r.hd,by have:=r.dp;omega,by have:=r.un;omega⟩
theorem Room.deeper{k:Nat}{A:Q5}(r:Room (k+1) A)(env:Env):Room k (A.deeper env):=
 ⟨r.hd,by have:=r.dp;show A.depth+1+3*k+5<_;omega,by have:=r.un;show A.units+3+16*k+200<_;omega⟩
theorem Room.in1{k:Nat}{A:Q5}(r:Room (k+1) A):Room k A.in1:=
 ⟨r.hd,by have:=r.dp;show A.depth+3*k+5<_;omega,by have:=r.un;show A.units+1+16*k+200<_;omega⟩
theorem Room.depth{k:Nat}{A:Q5}(r:Room k A):A.depth<recursionLimit:=by have:=r.dp;omega
def Qsd:TA:=λ_ H Q=>Q [] H
def QfW(ta:TE)(tr:TA):TA:=λσ H Q=>ta σ H λx H1=>tr σ H1 λxs H2=>Q (x::xs) H2
section
variable{X:Cx}{e:QL}{es:List QL}{te:TE}{t:TA}{pos:Pos}
theorem Zu:PA X [] Qsd:=λ_ _ _ _ H Q I h=>Qls ⟨[],H,I,.nil,h⟩
theorem Ys(ha:PE X e te)(hr:PA X es t)(hs:starEach (e::es) X.env=(false,eval e X.env)::starEach es X.env:=by rfl):PA X (e::es) (QfW te t):=by
 intro pos pins s σ H Q I h;rw[hs];show wpAny _ _ (spliced ((false,eval e X.env)::backTo pos (starEach es X.env))) _ _ s;refine Qlg (thn (ha pins s σ H _ I h) λu s1 ⟨x,H1,I1,r1,q1⟩=>?_);exact thn (hr pos pins s1 σ H1 _ I1 q1) λus s2 ⟨xs,H2,I2,r2,q2⟩=>⟨x::xs,H2,I2,.cons r1 r2,q2⟩
def Qw2(t:TA):TE:=λσ H Q=>t σ H λxs H1=>xs.length<=sizeLine/\∀p,H1 p=none->Q (.ref p) (upd H1 p (.lst xs))
theorem QnS(h:PA X es t):PE X (.List es pos) (Qw2 t):=by
 intro pins s σ H Q I hq;refine Qud (thn (h pos pins s σ H _ I hq) λus s1 ⟨xs,H1,I1,r,z,q⟩=>⟨by rw[<- r.length];exact z,?_⟩);have hf:H1 s1.heap.objs.size=none:=I1.hok.fresh (Ql _);refine⟨.ref s1.heap.objs.size,upd H1 s1.heap.objs.size (.lst xs),I1.laid (t':=s1.toks) (λb u e=>Qd _ e) (Ql _) ?_,rfl,q _ hf⟩;exact⟨z,us,0,r,Qp _ rfl⟩
end
abbrev Sp:=List V->Hp->VK->XK->Prop
abbrev CXT:=List Env->Hp->Shared->XK->Value->Shared->Prop
structure Env0 (P:QD) (w:Je) (K:PySem.W.Frag) (mg:Str->Option Value) (base:JM) (A:Q5) (outer:List Env) (s:Shared) (H:Hp):Prop where
 frames:A.frames=some outer
 mod:Mod K mg base
 bs:∀b o,base.get? b=some o->s.heap.get? b=some o/\H b=none
 bsz:base.objs.size<=s.heap.objs.size
 funs:s.heap.FunFrames base outer
 frf:∀b∈frs outer,H b=none
 hok:HOk P w H s.heap
 bare:Qcn s.gens
def CE(outer:List Env)(P:QD)(w:Je)(H:Hp)(s:Shared)(Q:VK)(u:Value)(s':Shared):Prop:=
 ∃v H',s'.os=s.os/\Qcn s'.gens/\Un (frs outer) [] H H' s.heap s'.heap/\HOk P w H' s'.heap/\RelV v u/\Q v H'
def CR(CX:CXT)(outer:List Env)(P:QD)(w:Je)(H:Hp)(s:Shared)(Q:VK)(E:XK)(r:Qhp)(s':Shared):Prop:=
 match r with
 |.ok (.ret u)=>CE outer P w H s Q u s'
 |.ok _=>False
 |.error e=>CX outer H s E e s'
structure FnOk (P:QD) (w:Je) (K:PySem.W.Frag) (mg:Str->Option Value) (base:JM) (CX:CXT) (k:Nat) (f:Addr) (fd:Qy) (ps:List Str) (sp:Sp):Prop where
 len:∀vs H Q E,sp vs H Q E->vs.length=ps.length
 run:∀(A:Q5)(outer:List Env)(s:Shared)(H:Hp)(args:Args)(us:List Value)(vs:List V)(Q:VK)(E:XK),Room k A->Env0 P w K mg base A outer s H->Qdi s fd args (ps.zip us)->Vals vs us->sp vs H Q E ->
  codeAny (model P w) A (.call (.ref f) args) (CR CX outer P w H s Q E) s
theorem FnOk.imp{P:QD}{w:Je}{K:PySem.W.Frag}{mg:Str->Option Value}{base:JM}{CX:CXT}{k:Nat}{f:Addr}{fd:Qy}{ps:List Str}{sp sp':Sp}(F:FnOk P w K mg base CX k f fd ps sp)
  (h:∀vs H Q E,sp' vs H Q E->sp vs H Q E):FnOk P w K mg base CX k f fd ps sp':=
 ⟨λvs H Q E q=>F.len vs H Q E (h _ _ _ _ q),λA outer s H args us vs Q E hr he hb hv hs=>F.run A outer s H args us vs Q E hr he hb hv (h _ _ _ _ hs)⟩
theorem Env0.in1{P:QD}{w:Je}{K:PySem.W.Frag}{mg:Str->Option Value}{base:JM}{A:Q5}{outer:List Env}{s:Shared}{H:Hp}(e:Env0 P w K mg base A outer s H) :
  Env0 P w K mg base A.in1 outer s H:=⟨e.frames,e.mod,e.bs,e.bsz,e.funs,e.frf,e.hok,e.bare⟩
section
variable{X:Cx}{pins:List (Addr×Obj)}{σ:St}{H:Hp}{s s':Shared}
theorem Inv.env0(I:Inv X pins σ H s):Env0 X.prog X.w X.K X.mg X.base X.A X.stack s H:=
 ⟨I.ok.frames,I.ok.mod,I.bs,QQ I.ok.bsz I.sz,I.stack,I.stkFree,I.hok,I.bare⟩
theorem Inv.after{Q:VK}{u:Value}(I:Inv X pins σ H s)(h:CE X.stack X.prog X.w H s Q u s'):EP X pins σ Q u s':=by
 obtain⟨v,H',os,bare,un,hok,r,q⟩:=h;obtain⟨hh,g,d,t,os'⟩:=s';obtain rfl:os'=s.os:=os;exact⟨v,H',I.call (h':=hh) (g':=g) (d':=d) (t':=t) (ch:=[]) un hok bare (λb z=>absurd z (by simp)),r,q⟩
end
def QlB(sp:Sp)(dvs:List V)(E:XK)(t:TA):TE:=λσ H Q=>t σ H λvs H1=>sp (vs++dvs) H1 Q E
def Binds(K:PySem.W.Frag)(fd:Qy)(ps:List Str)(ds:List Value):Prop:=
 ∀(s:Shared)(us:List Value),K.In s.heap->(us++ds).length=ps.length->Qdi s fd ⟨us,[]⟩ (ps.zip (us++ds))
theorem Binds.all{K:PySem.W.Frag}{fd:Qy}{ps:List Str}(h:∀us:List Value,us.length=ps.length->bindArgs fd ⟨us,[]⟩=pure (ps.zip us)):Binds K fd ps []:=λs us _ hl=>by
 rw[Zk] at hl ⊢;exact .of_eq (h us hl)
def Qar(CX:CXT)(X:Cx)(E:XK):Prop:=∀(pins:List (Addr×Obj))(σ:St)(H:Hp)(s:Shared)(e:Value)(s':Shared),Inv X pins σ H s->CX X.stack H s E e s'->X.xe e s'
section
variable{X:Cx}{CX:CXT}{k:Nat}{f C:Addr}{fd:Qy}{ps:List Str}{sp:Sp}{dvs:List V}{ds:List Value}{E:XK}{x m:Str}{p pos apos:Pos}{e o:QL}{es:List QL}{ta:TE}{t:TA}
theorem QnG{pins:List (Addr×Obj)}{σ:St}{H:Hp}{s:Shared}{Q:VK}{us:List Value}{vs:List V}(F:FnOk X.prog X.w X.K X.mg X.base CX k f fd ps sp)(hr:Room k X.A)(hb:Binds X.K fd ps ds)(hd:Vals dvs ds)(hx:Qar CX X E)
  (I:Inv X pins σ H s)(r:Vals vs us)(h:sp (vs++dvs) H Q E):wpAny (model X.prog X.w) X.A (call (.ref f) us) (EP X pins σ Q) X.xe s:=by
 have r2:Vals (vs++dvs) (us++ds):=r.append hd;have hl:(us++ds).length=ps.length:=by rw[<- r2.length];exact F.len _ _ _ _ h
 refine Qa3 (YT (F.run X.A X.stack s H ⟨us,[]⟩ (us++ds) (vs++dvs) Q E hr I.env0 (hb s us I.kIn hl) r2 h) λr s' hq=>?_);cases r with
 |error e=>exact hx pins σ H s e s' I hq
 |ok fl=>
  cases fl with
  |ret u=>exact I.after hq
  |next=>exact Jh hq
  |brk=>exact Jh hq
  |cont=>exact Jh hq
theorem QcU(F:FnOk X.prog X.w X.K X.mg X.base CX k f fd ps sp)(hr:Room k X.A)(hg:Gl X x)(hm:X.mg x=some (.ref f))(hk:PySem.W.keepIn X.K (.ref f)=true)(hb:Binds X.K fd ps ds)(hd:Vals dvs ds)(hx:Qar CX X E)
  (ha:PA X (e::es) t)(hdb:(x == ("__debug__" : Str))=false:=by decide)(he:starEach (e::es) X.env=(false,eval e X.env)::starEach es X.env:=by rfl)(hpl:(backTo pos (starEach es X.env)).any (·.1)=false:=by rfl) :
  PE X (.Call (.Name x p) (e::es) [] pos) (QlB sp dvs E t):=by
 intro pins s σ H Q I h;refine Z3 (Qb2 I hg hm ?_ hdb);refine PySem.W.callWith_K (h₀:=X.base) I.ok.mod.kin hk (thn (ha pos pins s σ H _ I h) λus s1 ⟨vs,H1,I1,r,q⟩=>⟨I1.kIn,?_⟩) he hpl;exact QnG F hr hb hd hx I1 r q
end
section
variable{X:Cx}{CX:CXT}{k:Nat}{f C:Addr}{fd:Qy}{ps ks:List Str}{sp:Sp}{E:XK}{x m:Str}{p pos apos kpos:Pos}{e o:QL}{es:List QL}{kws:List Keyword}{te ta:TE}{t tk:TA}{nm:Option Str}
variable{g:List Value->List Value->List Value}{gV:List V->List V->List V}
end
structure Jg (N P:List Str) (sc:ZK):Prop where
 kind:sc.kind=.function
 co:sc.isCoroutine=false
 gen:sc.isGenerator=false
 nd:N.Nodup
 pre:N.take P.length=P
 par:∀x∈P,sc.names.lookup x=some .local∨sc.names.lookup x=some .cell
 nofree:∀y∈sc.names,y.2≠.free
theorem QfC{kindOf:Str->Option Yj}{x:Str}:∀{binds:List (Str×Value)}{m:Str->Option Value},(∀v,(x,v)∉binds)->bindL kindOf binds m x=m x
 |[],_,_=>rfl
 |(n,v)::r,m,h=>by
  unfold bindL;rw[QfC λw hw=>h w (Jp _ hw)];split
  ·have:x≠n:=by rintro rfl;exact h v JR
   simp[this]
  ·rfl
theorem QfE{kindOf:Str->Option Yj}{x:Str}:∀{binds:List (Str×Value)}{m:Str->Option Value},(∀v,(x,v)∉binds)->bindC kindOf binds m x=m x
 |[],_,_=>rfl
 |(n,v)::r,m,h=>by
  unfold bindC;rw[QfE λw hw=>h w (Jp _ hw)];split
  ·rfl
  ·have:x≠n:=by rintro rfl;exact h v JR
   simp[this]
theorem QfD{kindOf:Str->Option Yj}{x:Str}{v:Value}:∀{P:List Str}{vs:List Value}{i:Nat}{m:Str->Option Value},P.Nodup->P[i]? = some x->vs[i]? = some v->kindOf x=some .local ->
  bindL kindOf (P.zip vs) m x=some v
 |[],_,_,_,_,h,_,_=>by simp at h
 |_::_,[],_,_,_,_,h,_=>by simp at h
 |p::P,w::vs,0,m,nd,h1,h2,hk=>by
  simp at h1 h2;subst h1;subst h2;show bindL kindOf ((p,w)::P.zip vs) m p=_;unfold bindL;rw[QfC λv hv=>(Qbc.mp nd).1 (Qbb hv).1,if_pos hk];simp
 |p::P,w::vs,i+1,m,nd,h1,h2,hk=>by
  show bindL kindOf ((p,w)::P.zip vs) m x=_;unfold bindL;exact QfD (i:=i) (Qbc.mp nd).2 (by simpa using h1) (by simpa using h2) hk
theorem QfF{kindOf:Str->Option Yj}{x:Str}{v:Value}:∀{P:List Str}{vs:List Value}{i:Nat}{m:Str->Option Value},P.Nodup->P[i]? = some x->vs[i]? = some v->kindOf x≠some .local ->
  bindC kindOf (P.zip vs) m x=some v
 |[],_,_,_,_,h,_,_=>by simp at h
 |_::_,[],_,_,_,_,h,_=>by simp at h
 |p::P,w::vs,0,m,nd,h1,h2,hk=>by
  simp at h1 h2;subst h1;subst h2;show bindC kindOf ((p,w)::P.zip vs) m p=_;unfold bindC;rw[QfE λv hv=>(Qbc.mp nd).1 (Qbb hv).1,if_neg hk];simp
 |p::P,w::vs,i+1,m,nd,h1,h2,hk=>by
  show bindC kindOf ((p,w)::P.zip vs) m x=_;unfold bindC;exact QfF (i:=i) (Qbc.mp nd).2 (by simpa using h1) (by simpa using h2) hk
def start(N:List Str)(vs:List V):St:=vs.map some++Qv (N.length - vs.length) none
def cxOf(CX:CXT)(P:QD)(w:Je)(K:PySem.W.Frag)(mg:Str->Option Value)(base:JM)(N:List Str)(qual:Str)(scope:ZK)(f:Addr)(cd:Value)(A:Q5)(outer:List Env)(s:Shared)(H:Hp)(E:XK):Cx where
 prog:=P
 w:=w
 K:=K
 mg:=mg
 base:=base
 A:=A.deeper (envOfC qual scope s.heap.objs.size f cd)
 N:=N
 s₀:=s
 H₀:=H
 env:=envOfC qual scope s.heap.objs.size f cd
 outer:=outer
 stack:=envOfC qual scope s.heap.objs.size f cd::outer
 ex:=[]
 calm:=true
 fn:=λ_=>true
 pn:=[]
 xe:=λe s'=>wpAny (model P w) (A.deeper (envOfC qual scope s.heap.objs.size f cd)) (leaving (envOfC qual scope s.heap.objs.size f cd) e) (λ_ s''=>CX outer H s E e s'') (λe' s''=>CX outer H s E e' s'') s'
theorem Qhh{sc:ZK}{n:Nat}{x:Str}(h:sc.names.lookup x=some .cell):∃c,(cellsFrom n sc.names []).lookup x=some c:=by
 have q:=PySem.W.cellsFrom_some sc.names n [] (.inl h);exact Option.isSome_iff_exists.mp q
theorem Qfm{CX:CXT}{P:QD}{w:Je}{K:PySem.W.Frag}{mg:Str->Option Value}{base:JM}{N ps:List Str}{qual:Str}{scope:ZK}{f:Addr}{cd:Value}{A:Q5}{outer:List Env}{s s1:Shared}{H:Hp}{E:XK}{us:List Value}{vs:List V}
  (S:Jg N ps scope)(hd:A.handled=none)(e0:Env0 P w K mg base A outer s H)(hl:vs.length=ps.length)(r:Vals vs us)
  (x:InCallC s s.heap.objs.size (bindL (envOfC qual scope s.heap.objs.size f cd).kindOf (ps.zip us) λ_=>none) (cellsFrom (s.heap.objs.size+1) scope.names []) (bindC (envOfC qual scope s.heap.objs.size f cd).kindOf (ps.zip us) λ_=>none) s1) :
  Inv (cxOf CX P w K mg base N qual scope f cd A outer s H E) [] (start N vs) H s1:=by
 have hpl:ps.length<=N.length:=by have:=congrArg List.length S.pre;rw[YG] at this;omega
 obtain⟨h1,tk,rfl,hk⟩:=x.done;have noA:∀b:Addr,b∉(cxOf CX P w K mg base N qual scope f cd A outer s H E).ex:=λb z=>absurd (show b∈([]:List Addr) from z) (by simp)
 refine⟨⟨e0.mod,S.kind,rfl,rfl,Ql _,λy z c h1 h2=>?_,λy hy=>?_,λy c _ h=>?_,λ_=>hd,Qhv e0.frames,.inr ⟨rfl,rfl⟩,λb z=>absurd z (noA b),e0.bs,e0.bsz,λb _ _=>noA b,λb z=>absurd z (noA b),e0.funs,e0.frf⟩,
  rfl,e0.bare,Un.kept hk,⟨_,x.toInCall.ns,λi y v h1 h2 h3=>?_⟩,λy c h=>⟨_,x.cell y c h⟩,e0.hok.fresh (Ql _),λy c h=>?_,λp hp=>absurd (show p∈([]:List (Addr×Obj)) from hp) (by simp),e0.hok.kept hk,?_⟩
 ·exact name_of_addr x.apart (PySem.mem_of_lookup h1) (PySem.mem_of_lookup h2)
 ·have hy:scope.names.lookup y=some .cell∨scope.names.lookup y=some .free:=hy;rcases hy with hy | hy
  ·exact Qhh hy
  ·exact absurd rfl (S.nofree _ (PySem.mem_of_lookup hy))
 ·exact Ze (x.above y c (PySem.mem_of_lookup h))
 ·have hi:i<vs.length:=by
   unfold start at h2;by_cases hi:i<vs.length
   ·exact hi
   ·rw[Qaa (by simpa using hi)] at h2;rw[Yk] at h2;split at h2<;>cases h2
  have ha:vs[i]? = some v:=by
   unfold start at h2;rw[Qan (by simpa using hi),Qz] at h2;cases e:vs[i]? with
   |none=>rw[e] at h2;cases h2
   |some a=>rw[e] at h2;cases h2;rfl
  obtain⟨u,hu,rv⟩:=r.get ha;have hp:ps[i]? = some y:=by
   rw[<- S.pre,List.getElem?_take_of_lt (by omega)];exact h1
  have ndP:ps.Nodup:=by rw[<- S.pre];exact S.nd.sublist (List.take_sublist _ _)
  refine⟨u,rv,?_⟩;rcases S.par y (QM hp) with k | k
  ·exact .inl ⟨k,QfD ndP hp hu k⟩
  ·obtain⟨c,e⟩:=Qhh (n:=s.heap.objs.size+1) k;refine .inr ⟨.inl k,c,e,?_⟩;have q:=x.cell y c e;rw[QfF ndP hp hu (by show scope.names.lookup y≠_;rw[k];decide)] at q;exact q
 ·exact e0.hok.fresh (Ze (x.above y c (PySem.mem_of_lookup h)))
 ·unfold start;show _=N.length;rw[QF,Qg,Zq];omega
theorem Qrh{CX:CXT}{P:QD}{w:Je}{K:PySem.W.Frag}{mg:Str->Option Value}{base:JM}{k:Nat}{f:Addr}{name qual:Str}{params:Qd9}{body:List ZA}{scope:ZK}{dV kV doc pm cdv ct oc:Value}{an od:Option Addr}
  {osl:Array (Option Value)} {N ps:List Str} {sp:Sp} (lk:K.lookup f=some ⟨oc,od,.func (PySem.W.fnOf name qual params body scope dV kV doc pm an cdv ct),osl⟩) (hcd:PySem.W.codeIn K cdv qual=true) (S:Jg N ps scope)
  (len:∀vs H Q E,sp vs H Q E->vs.length=ps.length)
  (hbody:∀(A:Q5)(outer:List Env)(s:Shared)(H:Hp)(vs:List V)(Q:VK)(E:XK),Room k (A.deeper (envOfC qual scope s.heap.objs.size f cdv))->sp vs H Q E ->
   ∃t,PSs (cxOf CX P w K mg base N qual scope f cdv A outer s H E) body t/\t { nx:=λ_ H'=>Q .non H',rt:=Q } (start N vs) H) :
  FnOk P w K mg base CX (k+1) f (PySem.W.fnOf name qual params body scope dV kV doc pm an cdv ct) ps sp:=by
 refine⟨len,λA outer s H args us vs Q E hr e0 hb r hsp=>?_⟩;have hl:=len _ _ _ _ hsp;have KX:K.In s.heap:=e0.mod.kin.keeps λb o e=>(e0.bs b o e).1
 have lim:s.heap.NoLimit:=e0.mod.nolimit.keeps λb o e=>(e0.bs b o e).1
 have hkind:∀y∈ps.zip us,scope.names.lookup y.1=some .local∨(scope.names.lookup y.1=some .cell/\((cellsFrom (s.heap.objs.size+1) scope.names []).lookup y.1).isSome=true):=λ⟨n,v⟩ hy=>by
  rcases S.par n (Qbb hy).1 with q | q
  ·exact .inl q
  ·exact .inr ⟨q,PySem.W.cellsFrom_some _ _ _ (.inl q)⟩
 refine Qoj hr.depth (KX _ _ lk) rfl S.co S.gen rfl (PySem.W.codeRec_of KX hcd) (hb _ _ _ _ ?_);refine Qif S.kind hkind λenv he s1 x=>?_
 subst he;refine⟨lim.keeps x.toInCall.keep,codeAny_func ?_⟩;obtain⟨t,ht,hq⟩:=hbody A outer s H vs Q E (hr.deeper _) hsp;have I:Inv (cxOf CX P w K mg base N qual scope f cdv A outer s H E) [] (start N vs) H s1:=Qfm S hr.hd e0 hl r x;refine wpAny_mono (ht [] s1 (start N vs) H _ I hq) (λfl s' hs=>?_) λe s' hs=>hs
 have fin:∀{σ':St}{H':Hp}{v:V}{u:Value},Inv (cxOf CX P w K mg base N qual scope f cdv A outer s H E) [] σ' H' s'->RelV v u->Q v H'->CE outer P w H s Q u s':=
  λ{σ' H' v u} J rv q=>⟨v,H',J.os,J.bare,J.base,J.hok,rv,q⟩
 cases fl with
 |ret u=>
  obtain⟨v,σ',H',J,rv,q⟩:=hs;exact fin J rv q
 |next=>
  obtain⟨σ',H',J,q⟩:=hs;exact fin (v:=V.non) (u:=Ye) J rfl q
 |brk=>
  obtain⟨_,_,_,q⟩:=hs;exact Jh q
 |cont=>
  obtain⟨_,_,_,q⟩:=hs;exact Jh q
section
variable{X:Cx}{x:Str}{p pos:Pos}{e:QL}{es:List QL}{t:TA}{id T:String}{r:List V->Hp->VK->Prop}
def tCB(r:List V->Hp->VK->Prop)(t:TA):TE:=λσ H Q=>t σ H λvs H1=>r vs H1 Q
theorem Qah(hc:CallR X (.builtin id) r)(hg:Gl X x)(hm:X.mg x=none)(hv:bootBuiltins x=some (.builtin id))(ha:PA X (e::es) t)(hn:x ≠ "__name__" := by decide)(hdb:(x == ("__debug__" : Str))=false:=by decide)
  (he:starEach (e::es) X.env=(false,eval e X.env)::starEach es X.env:=by rfl)(hpl:(backTo pos (starEach es X.env)).any (·.1)=false:=by rfl):PE X (.Call (.Name x p) (e::es) [] pos) (tCB r t):=by
 intro pins s σ H Q I h;refine Z3 (Qbx I hg hm hv ?_ hn hdb);exact PyProof.Rows.callWith_builtin1 (thn (ha pos pins s σ H _ I h) λus s1 ⟨vs,H1,I1,r1,q1⟩=>hc pins s1 σ H1 vs us Q I1 r1 q1) he hpl
theorem Qfa(hc:CallR X (.type T) r)(hg:Gl X x)(hm:X.mg x=none)(hv:bootBuiltins x=some (.type T))(ha:PA X (e::es) t)(hn:x ≠ "__name__" := by decide)(hdb:(x == ("__debug__" : Str))=false:=by decide)
  (he:starEach (e::es) X.env=(false,eval e X.env)::starEach es X.env:=by rfl)(hpl:(backTo pos (starEach es X.env)).any (·.1)=false:=by rfl):PE X (.Call (.Name x p) (e::es) [] pos) (tCB r t):=by
 intro pins s σ H Q I h;refine Z3 (Qbx I hg hm hv ?_ hn hdb);exact JL (thn (ha pos pins s σ H _ I h) λus s1 ⟨vs,H1,I1,r1,q1⟩=>hc pins s1 σ H1 vs us Q I1 r1 q1) he hpl
end
end L2
namespace HT
theorem QgO(A:Q5)(s:Shared)(a:Int)(t:Tok)(c:Int)(u:Tok)(prog:QD)(w:Je)(E:Value->Shared->Prop)(Q:Value->Shared->Prop)(h:Q (.bool (decide (a<c))) s) :
  wpAny (model prog w) A (richCompare .Lt (.int a t) (.int c u)) Q E s:=
 (PyProof.Rows.lt_int h:wpAny (model prog w) A (compareOp .Lt (.int a t) (.int c u)) Q E s)
section
open PySem.SeqAt
open PySem.AutoSeq1 (wpAny_loadPart')
open PySem.MeetsSeq PySem.MeetsSeq2 PySem.MeetsSeq3
end
section
variable{prog:QD}{w:Je}{A:Q5}{E:Value->Shared->Prop}{s:Shared}
theorem Qry{t b:Addr}{vs ws:List Value}{Q:Value->Shared->Prop}(ht:IsTup s.heap t vs.toArray)(hb:IsTup s.heap b ws.toArray)(hv:vs≠[])
  (h1:ws=[]->Q (.ref t) s)(h2:ws≠[]->Q (.ref s.heap.objs.size) { s with heap:=s.heap.push { cls:=.type "tuple",data:=.seq (vs++ws).toArray } })
  (hsz:vs.length+ws.length<=sizeLine):wpAny (model prog w) A (binaryOp .Add (.ref t) (.ref b)) Q E s:=by
 obtain⟨⟨cls,dd,data,sl⟩,ho,hc,n,hd⟩:=id ht;obtain⟨⟨cls2,dd2,data2,sl2⟩,ho2,hc2,n2,hd2⟩:=id hb;simp only at hc hd hc2 hd2;subst hc hd hc2 hd2;have e:vs.toArray++ws.toArray=(vs++ws).toArray:=by simp
 by_cases hw:ws=[]
 ·exact Qoi ⟨_,ho,rfl⟩ ⟨_,ho2,rfl⟩ QfQ Qlj PySem.F.slot_tuple_add PySem.F.entry_tuple_add (PySem.F.args_tuple_add_2 _ _)
   (tuple_addW1 t b vs.toArray ws.toArray n n2 dd dd2 sl sl2 (by simpa using hv) (by simp[hw])) ⟨ho,ho2,h1 hw⟩
 ·refine Qoi ⟨_,ho,rfl⟩ ⟨_,ho2,rfl⟩ QfQ Qlj PySem.F.slot_tuple_add PySem.F.entry_tuple_add (PySem.F.args_tuple_add_2 _ _)
   (tuple_addW2 t b vs.toArray ws.toArray n n2 dd dd2 sl sl2 (by simpa using hv) (by simpa using hw) (by rw[Qo,Qo];exact hsz)) ⟨ho,ho2,?_⟩
  rw[e];exact h2 hw
def sIx(n d:Nat):Option Int->Nat
 |none=>d
 |some v=>if v<0 then(v+(n:Int)).toNat else min v.toNat n
theorem QlO(n d:Nat):sIx n d none=d:=rfl
theorem QoJ(n d k:Nat):sIx n d (some (k:Int))=min k n:=by
 show(if(k:Int)<0 then((k:Int)+(n:Int)).toNat else min (k:Int).toNat n)=min k n;rw[if_neg (by omega),Z4]
theorem Qsk(n d:Nat)(hd:d<=n)(o:Option Int):sIx n d o<=n:=by
 cases o with
 |none=>exact hd
 |some v=>
  show(if v<0 then(v+(n:Int)).toNat else min v.toNat n)<=n;by_cases hv:v<0
  ·rw[if_pos hv];omega
  ·rw[if_neg hv];exact Qd5 _ _
theorem QkO(v:Int)(n d:Nat):(if v<0 then max (v+(n:Int)) 0 else min v (n:Int))=((sIx n d (some v):Nat):Int):=by
 show(if v<0 then max (v+(n:Int)) 0 else min v (n:Int))=(((if v<0 then(v+(n:Int)).toNat else min v.toNat n):Nat):Int);by_cases hv:v<0
 ·simp only[if_pos hv];omega
 ·simp only[if_neg hv];omega
theorem Qie(lo hi:Option Int)(n:Nat):YB lo hi 1 (n:Int)=(((sIx n 0 lo:Nat):Int),((sIx n n hi:Nat):Int)):=by
 have h1:¬((1:Int)<0):=by omega
 unfold YB;simp only[h1,if_false];refine Prod.ext ?_ ?_
 ·cases lo with
  |none=>rfl
  |some v=>exact QkO v n 0
 ·cases hi with
  |none=>rfl
  |some v=>exact QkO v n n
theorem QhK(i j:Nat):ZS (i:Int) (j:Int) 1=j - i:=by
 unfold ZS;have h1:(1:Int) > 0:=by omega
 simp only[h1,if_true,Int.ediv_one];split<;>omega
theorem Qdt{v:Value}{o:Option Int}{Q:Option Int->Shared->Prop}(p:QfM v o)(h:Q o s):wpAny (model prog w) A (Qu4 v) Q E s:=by
 cases p with
 |none=>exact slicePart_none h
 |int i t=>exact slicePart_int h
theorem Qao{sl:Addr}{vl vu:Value}{lo hi:Option Int}{n:Nat}{Q:Int×Int×Nat->Shared->Prop}(hs:s.heap.IsSliceOf sl vl vu .none)(pl:QfM vl lo)(pu:QfM vu hi)
  (h:Q (((sIx n 0 lo:Nat):Int),1,sIx n n hi - sIx n 0 lo) s):wpAny (model prog w) A (Qcf (.ref sl) (pure (n:Int))) Q E s:=by
 obtain⟨os,hos,hcs,hds⟩:=id hs;unfold Qcf Qu5;refine wpAny_bind (wpAny_bind (J3 hos hds (x:=vl) rfl (wpAny_bind (J3 hos hds (x:=vu) rfl (wpAny_bind (J3 hos hds (x:=.none) rfl (Qj ?_)))))));refine wpAny_bind (slicePart_none ?_);show wpAny _ _ (if((1:Int) == 0)=true then _ else _) _ _ s;rw[if_neg (by decide)];refine wpAny_bind (Qdt pl (wpAny_bind (Qdt pu (wpAny_bind (Qj ?_)))));show wpAny _ _ (match YB lo hi 1 (n:Int) with | (lo,hi)=>pure (lo,(1:Int),ZS lo hi 1)) _ _ s;rw[Qie lo hi n];show wpAny _ _ (pure (((sIx n 0 lo:Nat):Int),(1:Int),ZS ((sIx n 0 lo:Nat):Int) ((sIx n n hi:Nat):Int) 1)) _ _ s;rw[QhK];exact Qj h
theorem Ql3(xs:Array Value)(i k:Nat):((Q9 k).filterMap λ(m:Nat)=>xs[((i:Int)+(m:Int)*1).toNat]?).toArray=((xs.toList.drop i).take k).toArray:=by
 have e:(λ(m:Nat)=>xs[((i:Int)+(m:Int)*1).toNat]?)=λm=>xs[i+m]? := by
  funext m
  have:((i:Int)+(m:Int)*1).toNat=i+m:=by omega
  rw[this]
 rw[e];have:=pick_run xs i k;rw[Qct] at this;have e2:((λx=>xs[x]?)∘λx=>i+x)=λm=>xs[i+m]? := rfl
 rw[e2] at this;rw[this]
theorem Qb8{t sl:Addr}{items:Array Value}{vl vu:Value}{lo hi:Option Int}{Q:Value->Shared->Prop}(ht:IsTup s.heap t items)(hs:s.heap.IsSliceOf sl vl vu .none)(pl:QfM vl lo)(pu:QfM vu hi)
  (hw:¬(sIx items.size 0 lo=0/\sIx items.size items.size hi=items.size))
  (h:Q (.ref s.heap.objs.size) { s with heap:=s.heap.push { cls:=.type "tuple",data:=.seq ((items.toList.drop (sIx items.size 0 lo)).take (sIx items.size items.size hi - sIx items.size 0 lo)).toArray } })
  (hsz:items.size<=sizeLine):wpAny (model prog w) A (getItem (.ref t) (.ref sl)) Q E s:=by
 have htake:sizeOk (.seq ((items.toList.drop (sIx items.size 0 lo)).take (sIx items.size items.size hi - sIx items.size 0 lo)).toArray):=by
  show((items.toList.drop (sIx items.size 0 lo)).take (sIx items.size items.size hi - sIx items.size 0 lo)).toArray.size<=sizeLine;rw[Qo,YG,Qdo,ZH];omega
 have hj:sIx items.size items.size hi<=items.size:=Qsk _ _ (Ql _) hi;obtain⟨os,hos,hcs,hds⟩:=id hs;have hTs:s.TypeIs (.ref sl) "slice" := ⟨os,hos,hcs⟩;unfold getItem
 try with_reducible refine JN ?_
 first | refine wpAny_bind (Qj ?_) | skip
 refine wpAny_bind (QuF ht.typeIs (by decide) ?_);refine wpAny_bind (Zl (name:=Qam "__getitem__") ht.typeIs Jz
  (ZY Jz ht.typeIs QrU ?_ (Que _ _)))
 show wpAny _ _ (Qce (.ref t) >>= _) _ _ s;refine wpAny_bind (tupleItemsOf_ ht ?_);refine wpAny_bind (Qof hTs ?_);rw[if_pos (by decide)];refine wpAny_bind (Qao hs pl pu ?_);have hno:¬((((sIx items.size 0 lo:Nat):Int) == 0&&(1:Int) == 1&&(sIx items.size items.size hi - sIx items.size 0 lo) == items.size)=true):=by
  intro q;rw[Ju,Ju] at q;have q1:((sIx items.size 0 lo:Nat):Int)=0:=eq_of_beq q.1.1;have q2:sIx items.size items.size hi - sIx items.size 0 lo=items.size:=eq_of_beq q.2;exact hw ⟨by omega,by omega⟩
 show wpAny _ _ (if(((sIx items.size 0 lo:Nat):Int) == 0&&(1:Int) == 1&&(sIx items.size items.size hi - sIx items.size 0 lo) == items.size)=true then _ else _) _ _ s;rw[if_neg hno,Ql3]
 first
  |exact wpAny_bind (m:=Z1 _) (JD (Qj ⟨_,rfl,Qj h⟩) htake)
  |exact wpAny_bind (m:=Z1 _) (JD (wpAny_bind (Qj (Qj ⟨_,rfl,Qj h⟩))) htake)
  |exact wpAny_bind (wpAny_bind (m:=Z1 _) (JD (Qj (Qj ⟨_,rfl,Qj h⟩)) htake))
  |exact wpAny_bind (wpAny_bind (m:=Z1 _) (JD (Qj ⟨_,rfl,Qj h⟩) htake))
end
end HT
namespace L2
abbrev TO:=St->Hp->(Option Int->Hp->Prop)->Prop
def PO(X:Cx)(e:Option QL)(t:TO):Prop:=
 ∀(pins:List (Addr×Obj))(s:Shared)(σ:St)(H:Hp)(Q:Option Int->Hp->Prop),Inv X pins σ H s->t σ H Q ->
  wpAny (model X.prog X.w) X.A (evalPart e X.env) (λu s'=>∃o H',Inv X pins σ H' s'/\QfM u o/\Q o H') X.xe s
def Qow:TO:=λ_ H Q=>Q none H
def Qva(t:TE):TO:=λσ H Q=>t σ H λx H1=>∃i,x=.int i/\Q (some i) H1
theorem intsAre_of{ns:List Int}:∀{us:List Value},Vals (ns.map V.int) us->Qbj us ns:=by
 induction ns with
 |nil=>intro us r;rw[Qim] at r;cases r;exact .nil
 |cons n ns ih=>
  intro us r;rw[Zc] at r;cases r with
  |cons r1 r2=>
   obtain⟨t,e⟩:=r1;subst e;exact .cons n t (ih r2)
section
variable{X:Cx}{e:QL}{te:TE}{lo hi:Option QL}{tl th:TO}{pos p2:Pos}
theorem Qo6:PO X none Qow:=by
 intro pins s σ H Q I h;rw[evalPart_none];exact Qj ⟨none,H,I,.none,h⟩
theorem Qo5(h:PE X e te):PO X (some e) (Qva te):=by
 intro pins s σ H Q I hw;rw[evalPart_some];refine thn (h pins s σ H _ I hw) λu s1 ⟨x,H1,I1,r1,q1⟩=>?_
 obtain⟨i,rfl,q⟩:=q1;obtain⟨t,rfl⟩:=r1;exact⟨some i,H1,I1,.int i t,q⟩
def SlR(X:Cx)(r:V->Option Int->Option Int->Hp->VK->Prop):Prop:=
 ∀(pins:List (Addr×Obj))(s:Shared)(σ:St)(H:Hp)(x:V)(v vl vu:Value)(lo hi:Option Int)(sl:Addr)(Q:VK),Inv X pins σ H s->RelV x v->s.heap.IsSliceOf sl vl vu .none->QfM vl lo->QfM vu hi->r x lo hi H Q ->
  ∃T id,typeLookup (.type T) "__getitem__" = pure (some (.builtin id))/\s.TypeIs v T/\wpAny (model X.prog X.w) X.A (getItem v (.ref sl)) (EP X pins σ Q) X.xe s
def tSl(r:V->Option Int->Option Int->Hp->VK->Prop)(te:TE)(tl th:TO):TE:=λσ H Q=>te σ H λx H1=>tl σ H1 λl H2=>th σ H2 λu H3=>r x l u H3 Q
theorem Ql6{r:V->Option Int->Option Int->Hp->VK->Prop}(hr:SlR X r)(he:PE X e te)(hl:PO X lo tl)(hu:PO X hi th):PE X (.Subscript e (.Slice lo hi none p2) pos) (tSl r te tl th):=by
 intro pins s σ H Q I h;refine Subscript_ (thn (he pins s σ H _ I h) λv s1 ⟨x,H1,I1,r1,q1⟩=>?_);refine wpAny_Slice (thn (hl pins s1 σ H1 _ I1 q1) λvl s2 ⟨l,H2,I2,pl,q2⟩=>thn (hu pins s2 σ H2 _ I2 q2) λvu s3 ⟨u,H3,I3,pu,q3⟩=>?_);rw[evalPart_none];refine Qj ?_
 have I4:Inv X pins σ H3 { s3 with heap:=s3.heap.push { cls:=.type "slice",data:=.fields #[vl,vu,.none] } }:=I3.kept (t':=s3.toks) λb ob q=>Qd _ q
 obtain⟨T,id,hT,ht,hg⟩:=hr pins { s3 with heap:=s3.heap.push { cls:=.type "slice",data:=.fields #[vl,vu,.none] } } σ H3 x v vl vu l u s3.heap.objs.size Q I4 r1 (Qun ..) pl pu q3;show wpAny (model X.prog X.w) X.A (subscriptTail e (.Slice lo hi none p2) v (.ref s3.heap.objs.size)) (EP X pins σ Q) X.xe { s3 with heap:=s3.heap.push { cls:=.type "slice",data:=.fields #[vl,vu,.none] } };exact tail_any (ops:=[.ref s3.heap.objs.size,v]) ht hT hg (by with_unfolding_all rfl)
def Qix(xs:List V)(lo hi:Option Int):List V:=(xs.drop (HT.sIx xs.length 0 lo)).take (HT.sIx xs.length xs.length hi - HT.sIx xs.length 0 lo)
theorem Qc6(xs:List V)(lo hi:Option Int):(Qix xs lo hi).length<=xs.length:=by
 unfold Qix;rw[YG,Qdo];omega
def Qw6(K:PySem.W.Frag):V->Option Int->Option Int->Hp->VK->Prop:=λx lo hi H Q=>∃a xs,x=.ref a/\SqT K H a xs /\
 ¬(HT.sIx xs.length 0 lo=0/\HT.sIx xs.length xs.length hi=xs.length)/\∀p,H p=none->Q (.ref p) (upd H p (.tup (Qix xs lo hi)))
theorem Qsi:SlR X (Qw6 X.K):=by
 intro pins s σ H x v vl vu lo hi sl Q I rx hs pl pu h;obtain⟨a,xs,rfl,hx,hw,q⟩:=h;cases rx;obtain⟨its,r,ht,hz⟩:=I.tuple hx;have hlen:its.toArray.size=xs.length:=by rw[Qo];exact r.length.symm
 refine⟨"tuple",_,Jz.lookup,ht.typeIs,?_⟩;refine HT.Qb8 ht hs pl pu (by rw[hlen];exact hw) ?_ (by rw[hlen];exact hz)
 rw[hlen];refine⟨.ref s.heap.objs.size,_,I.laid (t':=s.toks) (o:=.tup (Qix xs lo hi)) (λb ob q=>Qd _ q) (Ql _) ?_,rfl,q _ (I.hok.fresh (Ql _))⟩;exact⟨QQ (Qc6 xs lo hi) hz,_,(r.drop (HT.sIx xs.length 0 lo)).take (HT.sIx xs.length xs.length hi - HT.sIx xs.length 0 lo),TupN.new _ _⟩
def Qvr(K:PySem.W.Frag):R2:=λx y H Q=>∃a b xs ys,x=.ref a/\y=.ref b/\SqT K H a xs/\SqT K H b ys/\xs≠[]/\xs.length+ys.length<=sizeLine /\
 (ys=[]->Q (.ref a) H)/\(ys≠[]->∀p,H p=none->Q (.ref p) (upd H p (.tup (xs++ys))))
theorem Vals.nil_iff{xs:List V}{us:List Value}(r:Vals xs us):us=[]↔xs=[]:=by
 cases r with
 |nil=>simp
 |cons _ _=>simp
theorem QpF:OpR X (binaryOp .Add) (Qvr X.K):=by
 intro pins s σ H x y v u Q I rx ry h;obtain⟨a,b,xs,ys,rfl,rfl,ha,hb,hx,hz,q1,q2⟩:=h;cases rx;cases ry;obtain⟨its,r1,p1,_⟩:=I.tuple ha;obtain⟨its2,r2,p2,_⟩:=I.tuple hb;refine HT.Qry p1 p2 (λz=>hx (r1.nil_iff.mp z)) (λz=>⟨.ref a,H,I,rfl,q1 (r2.nil_iff.mp z)⟩) (λz=>?_) (by rw[<- r1.length,<- r2.length];exact hz);refine⟨.ref s.heap.objs.size,_,I.laid (t':=s.toks) (o:=.tup (xs++ys)) (λb ob q=>Qd _ q) (Ql _) ?_,rfl,q2 (λw=>z (r2.nil_iff.mpr w)) _ (I.hok.fresh (Ql _))⟩;exact⟨by rw[QF];exact hz,_,r1.append r2,TupN.new _ _⟩
end
def ixN(n:Nat)(i:Int):Option Nat:=if 0<=i then(if i<n then some i.toNat else none) else if -(n:Int)<=i then some (i+n).toNat else none
def atI{α:Type}(xs:List α)(i:Int):Option α:=(ixN xs.length i).bind λj=>xs[j]?
theorem Qkh{n:Nat}{i:Int}{j:Nat}(h:ixN n i=some j):seqIndex? i n=some j/\j<n /\ -(n:Int)<=i/\i<n:=by
 unfold ixN at h;by_cases h0:0<=i
 ·rw[if_pos h0] at h;by_cases h1:i<n
  ·rw[if_pos h1] at h;have e:i.toNat=j:=Qq h;exact⟨by rw[Qho h0 h1,e],by omega,by omega,h1⟩
  ·rw[if_neg h1] at h;cases h
 ·rw[if_neg h0] at h;by_cases h1 : -(n:Int)<=i
  ·rw[if_pos h1] at h;have e:(i+n).toNat=j:=Qq h;exact⟨by rw[QfJ (by omega) h1,e],by omega,h1,by omega⟩
  ·rw[if_neg h1] at h;cases h
theorem Qgw{α:Type}{xs:List α}{i:Int}{v:α}(h:atI xs i=some v):∃j,seqIndex? i xs.length=some j/\xs[j]? = some v/\j<xs.length /\ -(xs.length:Int)<=i/\i<xs.length:=by
 unfold atI at h;cases e:ixN xs.length i with
 |none=>rw[e] at h;cases h
 |some j=>
  rw[e] at h;obtain⟨h1,h2,h3,h4⟩:=Qkh e;exact⟨j,h1,h,h2,h3,h4⟩
theorem Zw{α:Type}{xs:List α}{j:Nat}{v:α}(h:xs[j]? = some v):atI xs (j:Int)=some v:=by
 have hj:j<xs.length:=(Qw.mp h).1;have e:ixN xs.length (j:Int)=some j:=by
  unfold ixN;rw[if_pos (by omega),if_pos (by omega)];simp
 unfold atI;rw[e];exact h
theorem Qhk{α:Type}(xs:List α)(v:α):atI (xs++[v]) (-1)=some v:=by
 have hl:(xs++[v]).length=xs.length+1:=by simp
 have e:ixN (xs++[v]).length (-1)=some xs.length:=by
  unfold ixN;rw[hl,if_neg (by decide),if_pos (by omega)]
  congr 1
  omega
 unfold atI;rw[e];show(xs++[v])[xs.length]? = some v;simp
def QeJ(b:QL):Prop:=∀o i,subscripted b false o i=operate [o,i] (getItem o i)
def IxR(X:Cx)(r:R2):Prop:=
 ∀(value slice:QL)(pins:List (Addr×Obj))(s:Shared)(σ:St)(H:Hp)(x y:V)(v u:Value)(Q:VK),Inv X pins σ H s->RelV x v->RelV y u->r x y H Q ->
  subscripted slice false v u=operate [v,u] (getItem v u)->wpAny (model X.prog X.w) X.A (subscriptTail value slice v u) (EP X pins σ Q) X.xe s
def MtR(X:Cx)(id:String)(r:V->List V->Hp->VK->Prop):Prop:=
 ∀(pins:List (Addr×Obj))(s:Shared)(σ:St)(H:Hp)(x:V)(xs:List V)(v:Value)(us:List Value)(Q:VK),Inv X pins σ H s->RelV x v->Vals xs us->r x xs H Q ->
  wpAny (model X.prog X.w) X.A (call (.builtin id) (v::us)) (EP X pins σ Q) X.xe s
section
variable{X:Cx}{a b:QL}{ta tb:TE}{pos:Pos}
theorem QhM{r:R2}(hr:IxR X r)(ha:PE X a ta)(hb:PE X b tb)(hs:QeJ b):PE X (.Subscript a b pos) (tOp r ta tb):=by
 intro pins s σ H Q I h;exact Subscript_ (Qv5 ha hb I h λv u s2 x y H2 I2 rx ry q=>hr a b pins s2 σ H2 x y v u Q I2 rx ry q (hs _ _))
def Quv(K:PySem.W.Frag):R2:=λx y H Q=>∃p xs i v,x=.ref p/\y=.int i/\SqL K H p xs/\atI xs i=some v/\Q v H
def Qwl(K:PySem.W.Frag):R2:=λx y H Q=>∃p xs i v,x=.ref p/\y=.int i/\SqT K H p xs/\atI xs i=some v/\Q v H
theorem Qb5:IxR X (Quv X.K):=by
 intro value slice pins s σ H x y v u Q I rx ry h hs;obtain⟨p,xs,i,z,rfl,rfl,hq,he,q⟩:=h;cases rx;obtain⟨t,rfl⟩:=ry;obtain⟨its,r,pl,hz⟩:=I.list hq;obtain⟨j,h1,h2,h3,h4,h5⟩:=Qgw he;obtain⟨w,ew,rw'⟩:=r.get h2;have hl:=r.length;have hn:=QdP;have fin:EP X pins σ Q w s:=⟨z,H,I,rw',q⟩;by_cases h0:0<=i
 ·have hj:i.toNat=j:=by
   rw[Qho h0 h5] at h1;exact Qq h1
  exact item_listR pl.isList h0 (by omega) (by rw[hj];simpa using ew) fin hs
 ·have hj:(i+(its.toArray.size:Int)).toNat=j:=by
   rw[QfJ (by omega) h4] at h1;rw[Qo,<- hl];exact Qq h1
  exact Qnp (x:=w) pl.isList.typeIs QuJ.lookup
   (Qno (Q:=λr s'=>r=w/\EP X pins σ Q r s') pl.isList (by omega) (by rw[Qo]<;>omega) (by omega) (by rw[hj];simpa using ew) ⟨rfl,fin⟩) hs
theorem Qtz:IxR X (Qwl X.K):=by
 intro value slice pins s σ H x y v u Q I rx ry h hs;obtain⟨p,xs,i,z,rfl,rfl,hq,he,q⟩:=h;cases rx;obtain⟨t,rfl⟩:=ry;obtain⟨its,r,pl,hz⟩:=I.tuple hq;obtain⟨j,h1,h2,h3,h4,h5⟩:=Qgw he;obtain⟨w,ew,rw'⟩:=r.get h2;have hl:=r.length;have hn:=QdP;have fin:EP X pins σ Q w s:=⟨z,H,I,rw',q⟩;exact Qnp (x:=w) pl.typeIs slot_tuple_getitem.lookup
  (getItem_tuple (j:=j) (Q:=λr s'=>r=w/\EP X pins σ Q r s') pl (by omega) (by omega) (by rw[Qo,<- hl];exact h1) (by simpa using ew) ⟨rfl,fin⟩) hs
theorem QhV(its:List Value)(n j:Nat)(u:Value):QbF (·.setIfInBounds j u) { cls:=.type "list",data:=.seq its.toArray n }={ cls:=.type "list",data:=.seq (its.set j u).toArray n }:=by
 simp[QbF]
theorem Inv.lst{pins:List (Addr×Obj)}{σ:St}{H:Hp}{s:Shared}{p:Addr}{xs:List V}(I:Inv X pins σ H s)(h:H p=some (.lst xs)) :
  ∃(its:List Value)(n:Nat),Vals xs its/\s.heap.get? p=some { cls:=.type "list",data:=.seq its.toArray n }/\xs.length<=sizeLine:=by
 obtain⟨z,its,n,r,e⟩:=I.hok p _ h;exact⟨its,n,r,e,z⟩
theorem Inv.lstUpd{pins:List (Addr×Obj)}{σ:St}{H:Hp}{s:Shared}{p:Addr}{xs ys:List V}{its its':List Value}{n n':Nat}{f:Obj->Obj}(I:Inv X pins σ H s)(h:H p=some (.lst xs))
  (ho:s.heap.get? p=some { cls:=.type "list",data:=.seq its.toArray n })(hf:f { cls:=.type "list",data:=.seq its.toArray n }={ cls:=.type "list",data:=.seq its'.toArray n' })(r:Vals ys its')(hz:ys.length<=sizeLine)(t:Nat) :
  Inv X pins σ (upd H p (.lst ys)) { s with heap:=s.heap.update p f,toks:=t }:=by
 have e:(s.heap.update p f).get? p=some { cls:=.type "list",data:=.seq its'.toArray n' }:=by
  rw[YA f ho (by rw[hf]<;>rfl),hf]
 refine I.write (x:=p) (e:=p) (by rw[h];trivial) (.inl rfl) (λb u hb q=>(ZR _ _ (Qaz hb)).trans q) ⟨_,e⟩ ?_
 exact⟨hz,its',n',r,e⟩
def Qso:V->V->V->Hp->(Hp->Prop)->Prop:=λo i v H Q=>∃p xs k j,o=.ref p/\i=.int k/\H p=some (.lst xs)/\ixN xs.length k=some j/\Q (upd H p (.lst (xs.set j v)))
theorem QgG:Qv8 X Qso:=by
 intro pins s σ H o i v ov iv u Q I ro ri rv h;obtain⟨p,xs,k,j,rfl,rfl,hp,hj,q⟩:=h;cases ro;obtain⟨t,rfl⟩:=ri;obtain⟨its,n,r,ho,hz⟩:=I.lst hp;obtain⟨h1,h2,h3,h4⟩:=Qkh hj;have hl:=r.length;have hn:=QdP;have I':Inv X pins σ (upd H p (.lst (xs.set j v))) { s with heap:=s.heap.update p (QbF (·.setIfInBounds j u)) }:=
  I.lstUpd hp ho (QhV its n j u) (r.set rv j) (by rw[Zj];exact hz) s.toks
 by_cases h0:0<=k
 ·have hk:k.toNat=j:=by
   rw[Qho h0 h4] at h1;exact Qq h1
  exact PySem.W.ki_setAt ho h0 (by omega) (by rw[Qo,<- hl];exact h4) (by rw[hk];exact⟨_,I',q⟩)
 ·have hk:(k+(its.toArray.size:Int)).toNat=j:=by
   rw[QfJ (by omega) h3] at h1;rw[Qo,<- hl];exact Qq h1
  exact PySem.W.ki_setBack ho (by omega) (by rw[Qo,<- hl];exact h3) (by omega) (by rw[hk];exact⟨_,I',q⟩)
theorem Qe5(lo hi:Option Int)(n:Nat):(sliceBounds lo hi none n).1=((HT.sIx n 0 lo:Nat):Int)/\(sliceBounds lo hi none n).2.1=((HT.sIx n n hi:Nat):Int)/\(sliceBounds lo hi none n).2.2=1:=by
 refine⟨?_,?_,rfl⟩
 ·cases lo with
  |none=>simp[sliceBounds,HT.sIx]
  |some i=>
   simp only[sliceBounds,HT.sIx,Qlo,show(1:Int) > 0 by decide,if_true];by_cases h:i<0
   ·simp only[h,if_true]<;>omega
   ·simp only[h,if_false]<;>omega
 ·cases hi with
  |none=>simp[sliceBounds,HT.sIx]
  |some i=>
   simp only[sliceBounds,HT.sIx,Qlo,show(1:Int) > 0 by decide,if_true];by_cases h:i<0
   ·simp only[h,if_true]<;>omega
   ·simp only[h,if_false]<;>omega
theorem Qeh(its:List Value)(lo hi:Option Int):slicePick its.toArray lo hi none=((its.drop (HT.sIx its.length 0 lo)).take (HT.sIx its.length its.length hi - HT.sIx its.length 0 lo)).toArray:=by
 obtain⟨h1,h2,h3⟩:=Qe5 lo hi its.toArray.size;unfold slicePick;rw[h1,h2,h3];simp only[sliceRange_one,pick_run,Qo]<;>rfl
def Qw7(K:PySem.W.Frag):V->Option Int->Option Int->Hp->VK->Prop:=λx lo hi H Q=>∃a xs,x=.ref a/\SqL K H a xs/\∀p,H p=none->Q (.ref p) (upd H p (.lst (Qix xs lo hi)))
theorem QoD:SlR X (Qw7 X.K):=by
 intro pins s σ H x v vl vu lo hi sl Q I rx hs pl pu h;obtain⟨a,xs,rfl,hx,q⟩:=h;cases rx;obtain⟨its,r,ht,hz⟩:=I.list hx;have hlen:=r.length;refine⟨"list",_,QuJ.lookup,ht.isList.typeIs,?_⟩;refine wpAny_getItem_list_slice ht.isList hs pl pu .none (by simp) ?_ (by rw[Qo]<;>omega)
 rw[Qeh,<- hlen];refine⟨.ref s.heap.objs.size,_,I.laid (t':=s.toks) (o:=.lst (Qix xs lo hi)) (λb ob q=>Qd _ q) (Ql _) ?_,rfl,q _ (I.hok.fresh (Ql _))⟩;exact⟨QQ (Qc6 xs lo hi) hz,_,0,(r.drop (HT.sIx xs.length 0 lo)).take (HT.sIx xs.length xs.length hi - HT.sIx xs.length 0 lo),Qp _ rfl⟩
theorem QaH:CallR X (.builtin "len") (λxs H Q=>∃p ys,xs=[.ref p]/\(SqL X.K H p ys∨SqT X.K H p ys)/\Q (.int ys.length) H):=by
 intro pins s σ H xs us Q I r h;obtain⟨p,ys,rfl,hq,q⟩:=h;obtain⟨u,rfl,rx⟩:=vals1 r;cases rx;have hn:=QdP;rcases hq with hq | hq
 ·obtain⟨its,r',pl,hz⟩:=I.list hq;have hlen:=r'.length;exact Calls.call_len_list pl.isList (by simp only[Qo]<;>omega) ⟨.int ys.length,H,I.tok _,⟨s.toks+1,by rw[Qo,hlen]⟩,q⟩
 ·obtain⟨its,r',pl,hz⟩:=I.tuple hq;have hlen:=r'.length;exact len_tuple pl (by simp only[Qo]<;>omega) ⟨.int ys.length,H,I.tok _,⟨s.toks+1,by rw[Qo,hlen]⟩,q⟩
theorem Qfx:CallR X (.type "list") (λxs H Q=>∃p ys,xs=[.ref p]/\(SqL X.K H p ys∨SqT X.K H p ys)/\∀l,H l=none->Q (.ref l) (upd H l (.lst ys))):=by
 intro pins s σ H xs us Q I r h;obtain⟨p,ys,rfl,hq,q⟩:=h;obtain⟨u,rfl,rx⟩:=vals1 r;cases rx;have fin:∀(its:List Value),Vals ys its->ys.length<=sizeLine->∀(h':JM)(c':Nat),(∀b o',s.heap.get? b=some o'->h'.get? b=some o') ->
   h'.get? s.heap.objs.size=some { cls:=.type "list",dict:=none,data:=.seq its.toArray c',slots:=#[] }->EP X pins σ Q (.ref s.heap.objs.size) { s with heap:=h' }:=λits r' hz h' c' kp e=>
  ⟨.ref s.heap.objs.size,_,I.laid (t':=s.toks) kp (Ql _) (show ObjOk X.prog X.w _ h' _ (.lst ys) from⟨hz,its,c',r',e⟩),rfl,q _ (I.hok.fresh (Ql _))⟩
 rcases hq with hq | hq
 ·obtain⟨its,r',pl,hz⟩:=I.list hq;have hlen:=r'.length;obtain⟨o,ho,hc,n,hd⟩:=pl.isList;exact call_list_seq p (.inl rfl) ho hc hd (λh' c' kp e=>fin its r' hz h' c' kp e) (by simp only[Qo]<;>omega)
 ·obtain⟨its,r',pl,hz⟩:=I.tuple hq;have hlen:=r'.length;obtain⟨o,ho,hc,n,hd⟩:=pl;exact call_list_seq p (.inr rfl) ho hc hd (λh' c' kp e=>fin its r' hz h' c' kp e) (by simp only[Qo]<;>omega)
theorem QeG:CallR X (.type "tuple") (λxs H Q=>∃p ys,xs=[.ref p]/\((SqL X.K H p ys/\∀l,H l=none->Q (.ref l) (upd H l (.tup ys)))∨(SqT X.K H p ys/\Q (.ref p) H))):=by
 intro pins s σ H xs us Q I r h;obtain⟨p,ys,rfl,h⟩:=h;obtain⟨u,rfl,rx⟩:=vals1 r;cases rx;rcases h with⟨hq,q⟩ | ⟨hq,q⟩
 ·obtain⟨its,r',pl,hz⟩:=I.list hq;have hlen:=r'.length;refine call_tuple_list pl.isList (λh' kp=>?_) (by simp only[Qo]<;>omega);have I1:Inv X pins σ H { s with heap:=h' }:=I.kept (t':=s.toks) kp;have I2:Inv X pins σ (upd H h'.objs.size (.tup ys)) { s with heap:=h'.push { cls:=.type "tuple",data:=.seq its.toArray } }:=
   I1.laid (t':=s.toks) (λb o e=>Qd _ e) (Ql _) (show ObjOk X.prog X.w _ _ _ (.tup ys) from⟨hz,its,r',TupN.new _ _⟩)
  exact⟨.ref h'.objs.size,_,I2,rfl,q _ (I1.hok.fresh (Ql _))⟩
 ·obtain⟨its,r',pl,hz⟩:=I.tuple hq;exact call_tuple_same pl ⟨.ref p,H,I,rfl,q⟩
def tyV(K:PySem.W.Frag)(T:String)(x:V)(H:Hp):Prop:=match x with
 |.str _=>T = "str"
 |.int _=>T = "int"
 |.ref p=>(T = "list" /\ ∃xs,SqL K H p xs)∨(T = "tuple" /\ ∃o,K.lookup p=some o/\o.cls=.type "tuple" /\ o.dict=none) ∨
   (T = "dict" /\ ((∃kvs,H p=some (.dK kvs))∨∃kvs,H p=some (.dT kvs)))∨(T = "set" /\ ∃S n,H p=some (.set S n))
 |_=>False
theorem Qr6{pins:List (Addr×Obj)}{σ:St}{H:Hp}{s:Shared}{T:String}{x:V}{v:Value}(I:Inv X pins σ H s)(r:RelV x v)(ty:tyV X.K T x H) :
  s.TypeIs v T/\∀a,v=.ref a->∃ob,s.heap.get? a=some ob/\ob.dict=none:=by
 cases x with
 |str z=>
  obtain⟨t,rfl⟩:=r;cases(show T = "str" from ty);exact⟨typeIs_str s z t,λ_ e=>nomatch e⟩
 |int i=>
  obtain⟨t,rfl⟩:=r;cases(show T = "int" from ty);exact⟨QeU s i t,λ_ e=>nomatch e⟩
 |ref p=>
  cases r;rcases ty with⟨rfl,xs,hq⟩ | ⟨rfl,o,hk,hc,hd⟩ | ⟨rfl,hk⟩ | ⟨rfl,S,n,hk⟩
  ·obtain⟨its,_,pl,_⟩:=I.list hq;refine⟨pl.isList.typeIs,λa e=>?_⟩;cases e;obtain⟨o,n,e,c,hd,_⟩:=pl;exact⟨o,e,hd⟩
  ·refine⟨⟨o,I.kIn p o hk,hc⟩,λa e=>?_⟩;cases e;exact⟨o,I.kIn _ o hk,hd⟩
  ·have z:∃o,s.heap.get? p=some o/\o.ExactDict:=by
    rcases hk with⟨kvs,hk⟩ | ⟨kvs,hk⟩
    ·obtain⟨_,_,_,_,o,_,_,e,ex,_⟩:=I.hok p _ hk;exact⟨o,e,ex⟩
    ·obtain⟨_,_,_,_,o,_,_,e,ex,_⟩:=I.hok p _ hk;exact⟨o,e,ex⟩
   obtain⟨o,e,ex⟩:=z;refine⟨⟨o,e,ex.1⟩,λa e2=>?_⟩;cases e2;exact⟨o,e,ex.2.1⟩
  ·obtain⟨o,_,_,_,e,ex,_⟩:=I.hok p _ hk;refine⟨⟨o,e,ex.1⟩,λa e2=>?_⟩;cases e2;exact⟨o,e,ex.2.1⟩
 |_=>exact Jh ty
def tBM(K:PySem.W.Frag)(T:String)(r:V->List V->Hp->VK->Prop)(to:TE)(t:TA):TE:=λσ H Q=>to σ H λx H1=>tyV K T x H1/\t σ H1 λxs H2=>r x xs H2 Q
variable{o e:QL}{es:List QL}{to:TE}{t:TA}{name:Str}{apos cpos:Pos}{T id:String}{r:V->List V->Hp->VK->Prop}
theorem QsM(pa:PlainAttrs T)(slot:Slot T name id)(hty:typeOf (.builtin id)=pure (.type "method_descriptor"))(hm:MtR X id r)(ho:PE X o to)(ha:PA X (e::es) t)
  (hbase:attributeBase o name X.env (eval o X.env)=eval o X.env:=by rfl)
  (hfew:((backTo cpos (starEach (e::es) X.env)).all (λx => !x.1)&&(backToKw cpos (keywordEach [] X.env)).all (λx=>x.1.isSome)
   && decide ((e::es).length+([]:List Keyword).length+(if([]:List Keyword).isEmpty then 0 else 1)<30))=true:=by rfl)
  (hline:(apos.endLine == cpos.line)=true:=by rfl) (hs:starEach (e::es) X.env=(false,eval e X.env)::starEach es X.env:=by rfl) (hplain:(backTo cpos (starEach es X.env)).any (·.1)=false:=by rfl) :
  PE X (.Call (.Attribute o name apos) (e::es) [] cpos) (tBM X.K T r to t):=by
 intro pins s σ H Q I h;refine wpAny_Call_method_late hbase hfew hline rfl (thn (ho pins s σ H _ I h) λv s1 ⟨x,H1,I1,r1,ty,q1⟩=>?_);obtain⟨h1,h2⟩:=Qr6 I1 r1 ty;refine⟨T,id,pa,slot,hty,h1,h2,?_⟩;have hA:=ha cpos pins s1 σ H1 _ I1 q1;rw[hs] at hA ⊢;refine Calls.callWith_builtin (by show(false||(backTo cpos (starEach es X.env)).any (·.1))=false;rw[hplain]<;>rfl) (Qir ?_);exact thn hA λus s2 ⟨vs,H2,I2,r2,q2⟩=>hm pins s2 σ H2 x vs v us Q I2 r1 r2 q2
end
def MtM(X:Cx)(id:String)(r:V->List V->Hp->VK->Prop):Prop:=
 ∀(pins:List (Addr×Obj))(s:Shared)(σ:St)(H:Hp)(x:V)(xs:List V)(v:Value)(us:List Value)(Q:VK),Inv X pins σ H s->RelV x v->Vals xs us->r x xs H Q ->
  wpAny (model X.prog X.w) X.A (call (.builtin id) (v::us)) (EP X pins σ Q) X.xe s
theorem Vals.one:∀{x:V}{us:List Value},Vals [x] us->∃u,us=[u]/\RelV x u
 |_,_,.cons r .nil=>⟨_,rfl,r⟩
theorem Vals.zero:∀{us:List Value},Vals [] us->us=[]
 |_,.nil=>rfl
theorem Vals.rep{xs:List V}{us:List Value}(h:Vals xs us):∀k:Nat,Vals (Qv k xs).flatten (Qv k us).flatten
 |0=>.nil
 |k+1=>by
  rw[Jm,Jm,JW,JW];exact Vals.append h (Vals.rep h k)
theorem foldl_rep(its:List Value):∀(k:Nat)(acc:List Value),
  QfR (λx1 x2=>x1++x2) acc.toArray (Qv k its.toArray)=(acc++(Qv k its).flatten).toArray
 |0,acc=>by simp
 |k+1,acc=>by
  have e:acc.toArray++its.toArray=(acc++its).toArray:=by simp
  have e2:(acc++its)++(Qv k its).flatten=acc++(Qv (k+1) its).flatten:=by
   rw[Jm,JW,Qnv]
  rw[<- e2,<- foldl_rep its k (acc++its),<- e,Jm,QrO]
section
variable{X:Cx}{pins:List (Addr×Obj)}{σ:St}{H:Hp}{s:Shared}{l b:Addr}{xs ys zs:List V}
theorem Inv.lset{its its':List Value}{n:Nat}{f:Array Value->Array Value}{t':Nat}(I:Inv X pins σ H s)(hH:H l=some (.lst xs))
  (e:s.heap.get? l=some { cls:=.type "list",data:=.seq its.toArray n })(hf:f its.toArray=its'.toArray)(hv:Vals ys its')(hz:ys.length<=sizeLine) :
  Inv X pins σ (upd H l (.lst ys)) { s with heap:=s.heap.update l (QbF f),toks:=t' }:=by
 have q:=PySem.IsL.update e f;rw[hf] at q;refine I.write (x:=l) (e:=l) (by rw[hH];exact trivial) (.inl rfl) (λb' u hb hu=>(ZR s.heap (QbF f) (Qaz hb)).trans hu) ⟨_,q⟩ ?_
 exact⟨hz,its',_,hv,q⟩
theorem Inv.lnew{its:List Value}{t':Nat}(I:Inv X pins σ H s)(hv:Vals ys its)(hz:ys.length<=sizeLine) :
  Inv X pins σ (upd H s.heap.objs.size (.lst ys)) { s with heap:=s.heap.push { cls:=.type "list",data:=.seq its.toArray },toks:=t' }:=
 I.laid (λ_ _ q=>Qd _ q) (Ql _) ⟨hz,its,0,hv,Qp _ rfl⟩
theorem Inv.fresh(I:Inv X pins σ H s):H s.heap.objs.size=none:=I.hok.fresh (Ql _)
theorem Inv.lstM(I:Inv X pins σ H s)(hH:H l=some (.lst xs)):xs.length<=sizeLine/\∃(its:List Value)(n:Nat),Vals xs its/\xs.length=its.length/\s.heap.get? l=some { cls:=.type "list",data:=.seq its.toArray n }:=by
 obtain⟨z,its,n,r,e⟩:=I.hok l _ hH;exact⟨z,its,n,r,r.length,e⟩
theorem QmN{n:Nat}(h:n<=sizeLine):YN n=false:=by
 unfold YN;exact decide_eq_false (by omega)
end
section
variable{X:Cx}
def QoS:V->List V->Hp->VK->Prop:=λx vs H Q=>∃l xs y,x=.ref l/\vs=[y]/\H l=some (.lst xs)/\xs.length<sizeLine/\Q .non (upd H l (.lst (xs++[y])))
theorem Qj6:MtM X "list.append" QoS:=by
 intro pins s σ H x vs v us Q I rx rv h;obtain⟨l,xs,y,rfl,rfl,hH,hz,q⟩:=h;cases rx;obtain⟨u,rfl,ru⟩:=rv.one;obtain⟨z,its,n,r,hl,e⟩:=I.lstM hH;refine Qa5 F.slot_list_append ⟨_,e,rfl⟩ F.entry_list_append (F.args_list_append_2 _ _) (PySem.list_append l its.toArray n u (by rw[Qo];omega)) ⟨e,?_⟩;refine⟨.non,_,I.lset (its':=its++[u]) hH e (by simp) (r.append (.cons ru .nil)) ?_,rfl,q⟩;rw[QF,Qbd];omega
def Qwq:R2:=λx y H Q=>∃l b xs zs,x=.ref l/\y=.ref b/\H l=some (.lst xs)/\H b=some (.lst zs)/\xs.length+zs.length<=sizeLine/\∀p,H p=none->Q (.ref p) (upd H p (.lst (xs++zs)))
theorem QnU:OpR X (binaryOp .Add) Qwq:=by
 intro pins s σ H x y v u Q I rx ry h;obtain⟨l,b,xs,zs,rfl,rfl,hH,hB,hz,q⟩:=h;cases rx;cases ry;obtain⟨z,its,n,r,hl,e⟩:=I.lstM hH;obtain⟨z2,its2,n2,r2,hl2,e2⟩:=I.lstM hB;refine PySem.P.add_list e e2 ?_ (by rw[Qo,Qo];omega)
 have ea:its.toArray++its2.toArray=(its++its2).toArray:=by simp
 rw[ea];exact⟨.ref _,_,I.lnew (t':=s.toks) (r.append r2) (by rw[QF];omega),rfl,q _ I.fresh⟩
def Qwh:R2:=λx y H Q=>∃l k xs,x=.ref l/\y=.int k/\H l=some (.lst xs) /\ -(2^63)<=k/\k<2^63/\xs.length*k.toNat<=sizeLine /\
 ∀p,H p=none->Q (.ref p) (upd H p (.lst (Qv k.toNat xs).flatten))
theorem Qgg{α:Type}(xs:List α)(k:Nat):(Qv k xs).flatten.length=k*xs.length:=by
 induction k with
 |zero=>simp
 |succ k ih=>rw[Jm,JW,QF,ih,QiE,Nat.add_comm]
theorem QnT:OpR X (binaryOp .Mult) Qwh:=by
 intro pins s σ H x y v u Q I rx ry h;obtain⟨l,k,xs,rfl,rfl,hH,h1,h2,hz,q⟩:=h;cases rx;obtain⟨t,rfl⟩:=ry;obtain⟨z,its,n,r,hl,e⟩:=I.lstM hH;have hlen:its.toArray.size*k.toNat<=sizeLine:=by rw[Qo,<- hl];exact hz
 have hcap:¬its.toArray.size*k.toNat > (2^63 - 1) / 8:=by
  have:(sizeLine:Nat)<=(2^63 - 1) / 8:=by decide
  omega
 have hfit:¬(!Builtin.List.listFitsIndex k)=true:=by
  rw[fitsIndex_both h1 h2];exact Qr
 have hlong:¬YN (its.toArray.size*k.toNat)=true:=by
  rw[QmN hlen];exact Qr
 have hnew:QfR (λx1 x2=>x1++x2) #[] (Qv (if its.toArray.isEmpty=true then 0 else k.toNat) its.toArray)=(Qv k.toNat its).flatten.toArray:=by
  have f0:∀m:Nat,QfR (λx1 x2=>x1++x2) #[] (Qv m its.toArray)=(Qv m its).flatten.toArray:=λm=>by
   have:=foldl_rep its m [];rw[QeL] at this;exact this
  rw[f0];cases its with
  |nil=>simp
  |cons a r'=>rw[if_neg (by simp)]
 refine Qiz (T := "list") (U := "int") (by decide) ⟨_,e,rfl⟩ (λs'=>QeU s' k t) noFill_list_mul Qu0 QbK repeat_list Quo.lookup
  (Qa5 QbK (QeU s k t) Quq (Qr1 _ _) (int___rmul___int_list k t l its.toArray n)
   ⟨e,rfl,⟨_,e,rfl⟩,Qa5 F.slot_list_mul ⟨_,e,rfl⟩ F.entry_list_mul (F.args_list_mul_2 _ _) (AutoListH.list___mul___list_int_3 l its.toArray n k t hfit hcap hlong) ⟨e,?_⟩⟩)
 rw[hnew];exact⟨.ref _,_,I.lnew (t':=s.toks) (r.rep k.toNat) (by rw[Qgg,QiF];exact hz),rfl,q _ I.fresh⟩
end
section
variable{prog:QD}{w:Je}{A:Q5}{E:Value->Shared->Prop}{s:Shared}
end
section
variable{X:Cx}
end
end L2
namespace Att
open PySem.W PySem.Calls
theorem QcZ{P:Params}{h:JM}:∀(ns:List Int)(vs:List Value),WellAll P h vs (ns.map WData.int)->Qbj vs ns:=by
 intro ns;induction ns with
 |nil=>
  intro vs w;rw[Qim] at w;cases w;exact .nil
 |cons n ns ih=>
  intro vs w;rw[Zc] at w;cases w with
  |cons a b=>
   cases a;exact .cons _ _ (ih _ b)
theorem Qi7{l:OpenLaw}{n:Nat}(hn:l.most=some n){P:Params}{h:JM}{args:List WData}{vals:List Value}
  (hpre:l.row.toRowW.claim.pre args=true)(hwl:WellAll P h vals args) :
  ∃a vs ns,vals=[JG a]/\args=[WData.list (ns.map WData.int)]/\h.get? a=some { cls:=.type "list",data:=.seq vs.toArray }/\Qbj vs ns/\ns.length<=n:=by
 have hsh:WShape.hasAll [] args [.list .int]=true:=(pre_splitW hpre).1;have hc:l.pre.holds [] { args:=args }=true:=(pre_splitW hpre).2;obtain⟨d,r,rfl,h1,h2⟩:=hasAllW_cons hsh;obtain rfl:=hasAllW_nil h2;obtain⟨xs,rfl,h3⟩:=hasW_list h1;obtain⟨ns,rfl⟩:=items_int h3;have hlen:ns.length<=n:=by
  unfold OpenLaw.pre at hc;have h4:(WTm.not (.lt (.lit (.int (n:Int))) (.len (.arg 0)))).holds [] { args:=[.list (ns.map .int)] }=true:=by
   have h4:=(holds_andW hc).1;rw[hn] at h4;exact h4
  have h5:=condW_of h4 (w_not (w_lt w_lit (w_len_list (w_arg rfl))));rw[Qg] at h5;refine Nat.le_of_not_lt λq=>?_
  have q':(n:Int)<((ns.length:Nat):Int):=by omega
  first
   |(rw[decide_eq_true q'] at h5;exact absurd h5 (by decide))
   |(simp at h5;omega)
 cases hwl with
 |cons w1 w2=>
  cases w2;cases w1 with
  |list ho hall=>exact⟨_,_,ns,rfl,rfl,ho,QcZ ns _ hall,hlen⟩
theorem Qjv(l:OpenLaw)(args:List WData):l.row.toRowW.claim.post args (.bool true) args=true:=
 postW_of (r:=l.row.toRowW) (X:=(true == true))
  (show QuK [] (.bool true) .bool=true by first | rfl | decide | simp[QuK,WShape.arms,WShape.armsAll])
  (show(WTm.eq .res (.lit (.bool true))).value [] { args:=args,res:=some (.bool true),after:=args }=some (.bool (true == true)) from w_eq_bool (w_res rfl) w_lit) rfl
theorem Qgv{l:OpenLaw}{n:Nat}{q:QD}{loose:List Str}{XP:(Str->Option Value)->JM->Prop}{YP:Je->JM->Prop}{d:DefRec}
  (hn:l.most=some n)(hdf:d.params.defaults=[])
  (call:∀(w:Je)(s₀ s₁:Shared)(mg mb:Str->Option Value)(fa:Addr)(o:Obj)(pm cd doc:Value)(a:Addr)(vs:List Value)(ns:List Int),
   Ground q loose [] XP w s₀ mg mb s₁.heap->YP w s₁.heap ->
   s₁.heap.get? fa=some o->o.data=.func (docDef d.name d.params d.body d.scope pm cd doc)->s₁.heap.CodeRec cd d.name->mg d.name=some (.ref fa) ->
   s₁.heap.get? a=some { cls:=.type "list",data:=.seq vs.toArray }->Qbj vs ns->ns.length<=n->s₁.gens=#[] ->
   codeAny (model l.prog w) callerA (.call (.ref fa) ⟨[.ref a],[]⟩) (λr s'=>r=.ok (.ret (.bool true))/\OldK s₁.heap s'.heap/\s'.os=s₁.os/\Qcn s'.gens) s₁) :
  WalkO q loose XP YP l.row.toRowW d [] (λf vs=>PySem.call f vs):=by
 intro w s₀ s₁ mg mb G Y fa o pm cd doc dV kV ho hd hcd hD hmg hg args vals as hpre hlay hrd hwl hlo;obtain rfl:dV=.none:=Dflts.none hD hdf;obtain rfl:kV=.none:=Dflts.noKw hD;obtain⟨a,vs,ns,rfl,rfl,hobj,hints,hlen⟩:=Qi7 hn hpre hwl;refine enter_call (YT (call w s₀ s₁ mg mb fa o pm cd doc a vs ns G Y ho (fd_plain hd) hcd hmg hobj hints hlen hg) λr s' hq=>?_);obtain⟨rfl,h2,h3,h4⟩:=hq;exact⟨.inl ⟨.bool true,.bool true,[],rfl,λ_=>rfl,.bool true,Qjv l _,λ_=>⟨QuV,λ_ hm=>(nomatch hm)⟩⟩,h2,h3,h4⟩
section
variable{prog:QD}{w:Je}{A:Q5}{E:Value->Shared->Prop}{s:Shared}{K:Frag}
end
end Att
namespace L2
theorem QeZ:∀{vs:List Value}{ns:List Int},Qbj vs ns->Vals (ns.map V.int) vs
 |_,_,.nil=>.nil
 |_,_,.cons n t h=>.cons ⟨t,rfl⟩ (QeZ h)
def Js(s:ZA):Qd9:=match s with
 |.FunctionDef _ a _ _ _ _ _ _ _ _=>a
 |_=>{ posonlyargs:=[],args:=[],vararg:=none,kwonlyargs:=[],kw_defaults:=[],kwarg:=none,defaults:=[] }
def Jd(s:ZA):List ZA:=match s with
 |.FunctionDef _ _ b _ _ _ _ _ _ _=>b
 |_=>[]
def Qk(s:ZA):ZK:=match s with
 |.FunctionDef _ _ _ _ _ _ sc _ _ _=>sc
 |_=>{ kind:=.function,names:=[],isGenerator:=false,isCoroutine:=false }
abbrev CX0:CXT:=λ_ _ _ _ _ _=>False
abbrev E0:XK:=λ_ _ _=>False
structure Fun (K:PySem.W.Frag) (x qual:Str) (st:ZA) (f:Addr) (fd:Qy):Prop where
 ex:∃(oc:Value)(od:Option Addr)(kV doc pm:Value)(an:Option Addr)(cdv ct:Value)(osl:Array (Option Value)),
  fd=PySem.W.fnOf x qual (Js st) (Jd st) (Qk st) .none kV doc pm an cdv ct/\K.lookup f=some ⟨oc,od,.func fd,osl⟩/\PySem.W.codeIn K cdv qual=true
 kp:PySem.W.keepIn K (.ref f)=true
section
variable{P:QD}{w:Je}{K:PySem.W.Frag}{mg:Str->Option Value}{base:JM}
theorem Fun.ok{x qual:Str}{st:ZA}{f:Addr}{fd:Qy}{N ps:List Str}{k:Nat}{sp:Sp}(F:Fun K x qual st f fd)(S:Jg N ps (Qk st))(len:∀vs H Q E,sp vs H Q E->vs.length=ps.length)
  (hbody:∀(cdv:Value)(A:Q5)(outer:List Env)(s:Shared)(H:Hp)(vs:List V)(Q:VK)(E:XK),Room k (A.deeper (envOfC qual (Qk st) s.heap.objs.size f cdv))->sp vs H Q E ->
   ∃t,PSs (cxOf CX0 P w K mg base N qual (Qk st) f cdv A outer s H E).nox (Jd st) t/\t { nx:=λ_ H'=>Q .non H',rt:=Q } (start N vs) H):FnOk P w K mg base CX0 (k+1) f fd ps sp:=by
 obtain⟨oc,od,kV,doc,pm,an,cdv,ct,osl,rfl,lk,hcd⟩:=F.ex;refine Qrh lk hcd S len λA outer s H vs Q E hr hsp=>?_
 obtain⟨t,h,q⟩:=hbody cdv A outer s H vs Q E hr hsp;exact⟨t,h.nox,q⟩
theorem Fun.binds{x qual:Str}{st:ZA}{f:Addr}{fd:Qy}{ps:List Str}(F:Fun K x qual st f fd)
  (h:∀(kV doc pm:Value)(an:Option Addr)(cdv ct:Value)(us:List Value),us.length=ps.length->bindArgs (PySem.W.fnOf x qual (Js st) (Jd st) (Qk st) .none kV doc pm an cdv ct) ⟨us,[]⟩=pure (ps.zip us)):Binds K fd ps []:=by
 obtain⟨oc,od,kV,doc,pm,an,cdv,ct,osl,rfl,lk,hcd⟩:=F.ex;exact .all (h kV doc pm an cdv ct)
theorem J4{x qual:Str}{st:ZA}{f:Addr}{oc:Value}{od an:Option Addr}{osl:Array (Option Value)}{kV doc pm cdv ct:Value}(l:K.lookup f=some ⟨oc,od,.func (PySem.W.fnOf x qual (Js st) (Jd st) (Qk st) .none kV doc pm an cdv ct),osl⟩)
  (c:PySem.W.codeIn K cdv qual=true)(k:PySem.W.keepIn K (.ref f)=true):Fun K x qual st f (PySem.W.fnOf x qual (Js st) (Jd st) (Qk st) .none kV doc pm an cdv ct):=⟨⟨oc,od,kV,doc,pm,an,cdv,ct,osl,rfl,l,c⟩,k⟩
end
section
variable{X:Cx}
theorem pv(i:Nat){x:Str}{pos:Pos}(hN:X.N[i]? = some x:=by rfl)(hv:Vis X.env.scope x:=by first | exact Q0 rfl | exact Q8 (Q0 rfl) | exact Q8 (Q8 rfl))(hd:(x == ("__debug__" : Str))=false:=by decide)
  (hcd:(x == ("__classdict__" : Str))=false:=by decide):PE X (.Name x pos) (Qiu i):=QgV hN hv hd hcd
end
theorem QvT{A B:Prop}(h:B):if false=true then A else B:=by
 rw[if_neg Qr];exact h
theorem QvR{A B:Prop}(h:A):if true=true then A else B:=by
 rw[if_pos rfl];exact h
theorem Qwx{c A B:Prop}[Decidable c](h1:c->A)(h2:¬c->B):if c then A else B:=by
 by_cases h:c
 ·rw[if_pos h];exact h1 h
 ·rw[if_neg h];exact h2 h
theorem QvS{c A B:Prop}[Decidable c](hc:c)(h:B):if(!decide c)=true then A else B:=by
 rw[decide_eq_true hc];exact QvT h
def Same(H H':Hp):Prop:=∀b o,H b=some o->H' b=some o
theorem Same.refl(H:Hp):Same H H:=λ_ _ h=>h
theorem Same.trans{H H1 H2:Hp}(a:Same H H1)(b:Same H1 H2):Same H H2:=λc o h=>b c o (a c o h)
theorem Same.free{H H':Hp}(e:Same H H'){l:Addr}(h:H' l=Qui):H l=Qui:=by
 cases q:H l with
 |none=>rfl
 |some o=>
  rw[e l o q] at h;cases h
theorem Same.seq{K:PySem.W.Frag}{H H':Hp}{a:Addr}{xs:List V}(e:Same H H')(h:SqL K H a xs):SqL K H' a xs:=by
 rcases h with(h | ⟨o,h⟩) | h
 ·exact .inl (.inl (e _ _ h))
 ·exact .inl (.inr ⟨o,e _ _ h⟩)
 ·exact .inr h
end L2
set_option maxHeartbeats 4000000
namespace L2
def blk(X:Cx)(M:List Str)(scope:ZK)(cl:List (Str×Addr))(ex:List Addr)(s3:Shared)(H3:Hp)(C:Addr):Cx where
 prog:=X.prog
 w:=X.w
 K:=X.K
 mg:=X.mg
 base:=X.base
 A:=X.A
 N:=M
 s₀:=s3
 H₀:=H3
 env:=compEnvC scope cl C X.env
 outer:=X.stack
 stack:=X.stack
 ex:=ex
 fn:=λ_=>false
 calm:=X.calm
 pn:=[]
 xe:=λ_ _=>False
def Qap(env:Env):List (Str×Yj)->List (Str×Addr)->List (Str×Addr)
 |[],acc=>acc
 |(n,k)::r,acc=>Qap env r (if k=.free then(n,(env.cells.lookup n).getD 0)::acc else acc)
theorem Qgo{env:Env}:∀(l:List (Str×Yj))(acc:List (Str×Addr)),(∀x∈l,x.2=.free->∃c,env.cells.lookup x.1=some c) ->
  (forIn (m:=Sem) l acc λx cs=>(if(x.2 == Q1)=true then do let a <- cellOf env x.1;pure (Za ((x.1,a)::cs)) else pure (Za cs)))=pure (Qap env l acc)
 |[],acc,_=>rfl
 |(n,k)::r,acc,h=>by
  rw[QeP];by_cases hk:k=.free
  ·subst hk;obtain⟨c,hc⟩:=h (n,.free) JR rfl;have e1:cellOf env n=pure c:=by unfold cellOf;rw[hc]
   have e2:Qap env ((n,.free)::r) acc=Qap env r ((n,c)::acc):=by
    show Qap env r (if Q1=.free then(n,(env.cells.lookup n).getD 0)::acc else acc)=_;rw[if_pos rfl,hc];rfl
   rw[e2];show((if(Q1 == Q1)=true then do let a <- cellOf env n;pure (Za ((n,a)::acc)) else pure (Za acc)) >>= _)=_;rw[if_pos (show(Q1 == Q1)=true by decide),e1];exact Qgo r _ λx hx=>h x (Jp _ hx)
  ·have hb:(k == Q1)=false:=by simpa using hk
   have e2:Qap env ((n,k)::r) acc=Qap env r acc:=by
    show Qap env r (if k=.free then(n,(env.cells.lookup n).getD 0)::acc else acc)=_;rw[if_neg hk]
   rw[e2];show((if(k == Q1)=true then _ else pure (Za acc)) >>= _)=_;rw[hb,if_neg Qr];exact Qgo r _ λx hx=>h x (Jp _ hx)
theorem QeD{scope:ZK}{env:Env}(h:∀x∈scope.names,x.2=.free->∃c,env.cells.lookup x.1=some c):closureFor scope env=pure (Qap env scope.names []):=by
 have e:=Qgo (env:=env) scope.names [] h;unfold closureFor;show(forIn scope.names [] _ >>= _)=_;have e':(forIn (m:=Sem) scope.names ([]:List (Str×Addr)) λx cs=>match x with | (name,kind)=>(if(kind == Q1)=true then do let a <- cellOf env name;pure (Za ((name,a)::cs)) else pure (Za cs)))=pure (Qap env scope.names []):=e
 first
  |(rw[e'];rfl)
  |(refine Eq.trans (congrArg (λt=>t >>= _) e') ?_;rfl)
theorem Qgp{env:Env}:∀(l:List (Str×Yj))(acc:List (Str×Addr)),(∀x∈l,x.2=.free->∃c,env.cells.lookup x.1=some c)->(∀x c,acc.lookup x=some c->env.cells.lookup x=some c) ->
  (∀x c,(Qap env l acc).lookup x=some c->env.cells.lookup x=some c)/\(∀x c,acc.lookup x=some c->(Qap env l acc).lookup x=some c)/\∀x,(x,Q1)∈l->∃c,(Qap env l acc).lookup x=some c
 |[],acc,_,ha=>⟨ha,λ_ _ h=>h,λ_ h=>nomatch h⟩
 |(n,k)::r,acc,h,ha=>by
  have hr:∀x∈r,x.2=.free->∃c,env.cells.lookup x.1=some c:=λx hx=>h x (Jp _ hx)
  by_cases hk:k=.free
  ·subst hk;obtain⟨c,hc⟩:=h (n,.free) JR rfl;have e2:Qap env ((n,.free)::r) acc=Qap env r ((n,c)::acc):=by
    show Qap env r (if Q1=.free then(n,(env.cells.lookup n).getD 0)::acc else acc)=_;rw[if_pos rfl,hc];rfl
   rw[e2];have ha':∀x c',((n,c)::acc).lookup x=some c'->env.cells.lookup x=some c':=λx c' q=>by
    rw[QV] at q;cases hx:x == n with
    |true=>
     rw[hx] at q;have z:c=c':=Qq q;have y:x=n:=by simpa using hx
     rw[y,<- z];exact hc
    |false=>rw[hx] at q;exact ha x c' q
   obtain⟨i1,i2,i3⟩:=Qgp r ((n,c)::acc) hr ha';refine⟨i1,λx c' q=>?_,λx hx=>?_⟩
   ·refine i2 x c' ?_
    rw[QV];cases hx:x == n with
    |true=>
     have y:x=n:=by simpa using hx
     have:=ha x c' q;rw[y,hc] at this;exact this
    |false=>exact q
   ·rcases Qx.mp hx with z | z
    ·cases z;exact⟨c,i2 n c (by rw[QV,beq_self_eq_true])⟩
    ·exact i3 x z
  ·have e2:Qap env ((n,k)::r) acc=Qap env r acc:=by
    show Qap env r (if k=.free then(n,(env.cells.lookup n).getD 0)::acc else acc)=_;rw[if_neg hk]
   rw[e2];obtain⟨i1,i2,i3⟩:=Qgp r acc hr ha;refine⟨i1,i2,λx hx=>?_⟩;rcases Qx.mp hx with z | z
   ·cases z;exact absurd rfl hk
   ·exact i3 x z
theorem QaK{l:List (Str×Yj)}{x:Str}{k:Yj}(h:l.lookup x=some k):(x,k)∈l:=by
 induction l with
 |nil=>cases h
 |cons p r ih=>
  obtain⟨n,q⟩:=p;rw[QV] at h;cases hx:x == n with
  |true=>
   rw[hx] at h;have y:x=n:=by simpa using hx
   have z:q=k:=Qq h;subst y z;exact JR
  |false=>rw[hx] at h;exact Jp _ (ih h)
theorem YU{env:Env}:∀{names:List (Str×Yj)}{x:Str}{k:Yj},(names.map λ(n,k)=>if(k == Q1&&env.scope.kind == .function&&env.kindOf n == some .cell) then(n,ZV) else(n,k)).lookup x=some k ->
  names.lookup x=some k∨(k=.cell/\names.lookup x=some .free)
 |[],x,k,h=>by cases h
 |(n,q)::r,x,k,h=>by
  have ih:=@YU env r x k;rw[Zc] at h;have h':QeN x ((if(q == Q1&&env.scope.kind == .function&&env.kindOf n == some .cell)=true then(n,ZV) else(n,q))::_)=some k:=h;cases hx:x == n with
  |true=>
   by_cases hc:(q == Q1&&env.scope.kind == .function&&env.kindOf n == some .cell)=true
   ·rw[if_pos hc,QV,hx] at h';have z:ZV=k:=Qq h';have y:q=.free:=by simp at hc;exact hc.1.1
    refine .inr ⟨z.symm,?_⟩;rw[QV,hx,y]
   ·rw[if_neg hc,QV,hx] at h';refine .inl ?_
    rw[QV,hx];exact h'
  |false=>
   have h2:QeN x (r.map λ(n,k)=>if(k == Q1&&env.scope.kind == .function&&env.kindOf n == some .cell) then(n,ZV) else(n,k))=some k:=by
    by_cases hc:(q == Q1&&env.scope.kind == .function&&env.kindOf n == some .cell)=true
    ·rw[if_pos hc,QV,hx] at h';exact h'
    ·rw[if_neg hc,QV,hx] at h';exact h'
   rw[QV,hx];exact ih h2
theorem relabel_free{env:Env}:∀{names:List (Str×Yj)}{x:Str},names.lookup x=some .free->(names.map λ(n,k)=>if(k == Q1&&env.scope.kind == .function&&env.kindOf n == some .cell) then(n,ZV) else(n,k)).lookup x=some .cell ∨
   (names.map λ(n,k)=>if(k == Q1&&env.scope.kind == .function&&env.kindOf n == some .cell) then(n,ZV) else(n,k)).lookup x=some .free
 |[],x,h=>by cases h
 |(n,q)::r,x,h=>by
  have ih:=@relabel_free env r x;rw[Zc];show QeN x ((if(q == Q1&&env.scope.kind == .function&&env.kindOf n == some .cell)=true then(n,ZV) else(n,q))::_)=some .cell∨QeN x ((if(q == Q1&&env.scope.kind == .function&&env.kindOf n == some .cell)=true then(n,ZV) else(n,q))::_)=some .free;cases hx:x == n with
  |true=>
   rw[QV,hx] at h;have z:q=Q1:=Qq h;subst z;by_cases hc:(Q1 == Q1&&env.scope.kind == .function&&env.kindOf n == some .cell)=true
   ·rw[if_pos hc,QV,hx];exact .inl rfl
   ·rw[if_neg hc,QV,hx];exact .inr rfl
  |false=>
   rw[QV,hx] at h;by_cases hc:(q == Q1&&env.scope.kind == .function&&env.kindOf n == some .cell)=true
   ·rw[if_pos hc,QV,hx];exact ih h
   ·rw[if_neg hc,QV,hx];exact ih h
def Qca(N:List Str)(sc:ZK)(M:List Str)(scope:ZK)(cap:List (Option Nat)):Bool:=
 cap.length == M.length&&(M.zip cap).all (λ(x,o)=>match o with
  |none=>scope.names.lookup x == some .local
  |some j=>N[j]? == some x&&(scope.names.lookup x == some .free&&(sc.names.lookup x == some .cell||sc.names.lookup x == some .free))) &&
 (scope.kind == .function&&scope.names.all λy=>y.2 != .cell&&((y.2 != .free||(sc.names.lookup y.1 == some .cell||sc.names.lookup y.1 == some .free))&&(y.2 != .local||scope.names.lookup y.1 == some .local)))
def Qb9(cap:List (Option Nat))(σ:St):St:=cap.map λo=>match o with
 |none=>none
 |some j=>(σ[j]?).getD none
structure CapOk (N:List Str) (sc:ZK) (M:List Str) (scope:ZK) (cap:List (Option Nat)):Prop where
 len:cap.length=M.length
 own:∀(i j:Nat)(x:Str),M[i]? = some x->cap[i]? = some (some j)->N[j]? = some x/\scope.names.lookup x=some .free/\(sc.names.lookup x=some .cell∨sc.names.lookup x=some .free)
 kind:scope.kind=.function
 cell:∀y∈scope.names,y.2≠.cell
 free:∀y∈scope.names,y.2=.free->sc.names.lookup y.1=some .cell∨sc.names.lookup y.1=some .free
 loc:∀y∈scope.names,y.2=.local->scope.names.lookup y.1=some .local
theorem CapOk.of{N:List Str}{sc:ZK}{M:List Str}{scope:ZK}{cap:List (Option Nat)}(h:Qca N sc M scope cap=true):CapOk N sc M scope cap:=by
 unfold Qca at h;simp only[Ju,J6,beq_iff_eq] at h;obtain⟨⟨h1,h2⟩,h3,h4⟩:=h;refine⟨h1,λi j x e1 e2=>?_,h3,λy hy z=>?_,λy hy z=>?_,λy hy z=>?_⟩
 ·have hm:(x,some j)∈M.zip cap:=by
   have:(M.zip cap)[i]? = some (x,some j):=by rw[List.getElem?_zip_eq_some];exact⟨e1,e2⟩
   exact QM this
  have:=h2 _ hm;simp only[Ju,beq_iff_eq,Bool.or_eq_true] at this;exact this
 ·have:=(h4 y hy).1;simp[z] at this
 ·have:=(h4 y hy).2.1
  simpa [z] using this
 ·have:=(h4 y hy).2.2
  simpa [z] using this
section
variable{X:Cx}{pins:List (Addr×Obj)}{σ:St}{H H3:Hp}{s3:Shared}{M:List Str}{scope:ZK}{cap:List (Option Nat)}{fp:List Addr}{h4:JM}{t4:Nat}
theorem Cx.Ok.cells(ok:X.Ok){N:List Str}(c:CapOk N X.env.scope M scope cap):∀y∈scope.names,y.2=.free->∃d,X.env.cells.lookup y.1=some d:=λy hy z=>ok.has y.1 (c.free y hy z)
theorem QbB(I:Inv X pins σ H3 s3)(c:CapOk X.N X.env.scope M scope cap)(hf:∀b∈fp,FpOk X pins H3 b)(hb:∀b∈fp,b<s3.heap.objs.size)
  (hn:h4.Ns s3.heap.objs.size λ_=>none)(hk:∀b o,s3.heap.get? b=some o->h4.get? b=some o) :
  Inv (blk X M scope (Qap X.env scope.names []) fp s3 H3 s3.heap.objs.size) [] (Qb9 cap σ) H3 { s3 with heap:=h4,toks:=t4 }:=by
 obtain⟨c1,c2,c3⟩:=Qgp scope.names [] (I.ok.cells c) (λx d q=>by cases q);refine⟨⟨I.ok.mod,c.kind,I.ok.glob,I.ok.blt,Ql _,λx y d e1 e2=>I.ok.inj x y d (c1 x d e1) (c1 y d e2),λx hx=>?_,(λx d z=>nomatch z),I.ok.hd,I.ok.frames,.inl rfl,λb hb'=>?_,I.bs,
  QQ I.ok.bsz I.sz,λb o e z=>?_,λb hb' z=>?_,I.stack,I.stkFree⟩,rfl,I.bare,Un.kept hk,⟨_,hn,λi x v e1 e2 e3=>?_⟩,λx d e=>?_,I.hok.fresh (Ql _),λx d e=>I.freeC x d (c1 x d e),λp hp=>(nomatch hp),I.hok.kept hk,?_⟩
 ·have hx':(relabel scope X.env).names.lookup x=some .cell∨(relabel scope X.env).names.lookup x=some .free:=hx;rcases hx' with q | q
  ·rcases YU q with z | ⟨_,z⟩
   ·exact absurd rfl (c.cell _ (QaK z))
   ·exact c3 x (QaK z)
  ·rcases YU q with z | ⟨z,_⟩
   ·exact c3 x (QaK z)
   ·cases z
 ·obtain⟨f0,f1,f2,f3,f4,f5⟩:=hf b hb';exact⟨Qs (hb b hb'),λx d e=>f4 x d (c1 x d e)⟩
 ·obtain⟨f0,f1,f2,f3,f4,f5⟩:=hf b z;rcases f3 with q | q
  ·exact I.ok.noex b o e q
  ·exact absurd (Qt (Qi e) (QQ I.ok.bsz q)) (ZL _)
 ·obtain⟨f0,f1,f2,f3,f4,f5⟩:=hf b hb';rcases Qx.mp (I.stkSub b z) with q | q
  ·exact f1 q
  ·exact f2 q
 ·have e2':(cap.map λo=>match o with | none=>none | some j=>(σ[j]?).getD none)[i]? = some (some v):=e2;rw[Qz] at e2';cases q:cap[i]? with
  |none=>rw[q] at e2';cases e2'
  |some o=>
   rw[q] at e2';cases o with
   |none=>cases e2'
   |some j=>
    have e4:(σ[j]?).getD none=some v:=Qq e2';have e5:σ[j]? = some (some v):=by
     cases r:σ[j]? with
     |none=>rw[r] at e4;cases e4
     |some o=>rw[r] at e4;exact congrArg some e4
    obtain⟨n1,n2,n3⟩:=c.own i j x e1 q;obtain⟨m,hm,hl⟩:=I.loc;obtain⟨u,ru,lk⟩:=hl j x v n1 e5 (n3.elim (λz=>.inr (.inl z)) λz=>.inr (.inr z));refine⟨u,ru,.inr ?_⟩;rcases lk with⟨k1,_⟩ | ⟨_,d,k2,k3⟩
    ·have k1':X.env.scope.names.lookup x=some .local:=k1;rcases n3 with z | z<;>(rw[z] at k1';cases k1')
    ·obtain⟨d',hd'⟩:=c3 x (QaK n2);have ed:d'=d:=by
      have:=c1 x d' hd';rw[k2] at this;exact(Qq this).symm
     subst ed;exact⟨(relabel_free n2:(relabel scope X.env).names.lookup x=some .cell∨(relabel scope X.env).names.lookup x=some .free),d',hd',k3.keeps hk⟩
 ·obtain⟨v,q⟩:=I.cell x d (c1 x d e);exact⟨v,q.keeps hk⟩
 ·show(cap.map _).length=M.length;rw[Qg];exact c.len
theorem Qgu{σ':St}{s':Shared}{h':JM}(I:Inv X pins σ H3 s3)(hf:∀b∈fp,FpOk X pins H3 b)(J:Inv (blk X M scope (Qap X.env scope.names []) fp s3 H3 s3.heap.objs.size) [] σ' H s')(hs:Qac s3.heap.objs.size s'.heap h') :
  Inv X pins σ H { s' with heap:=h' }:=by
 have u:Un (frs X.stack) fp H3 H s3.heap s'.heap:=J.base;have ne:∀b o,s3.heap.get? b=some o->b≠s3.heap.objs.size:=λb o e=>Qs (Qi e)
 have hC:H s3.heap.objs.size=none:=J.free;refine I.call' (ch:=fp) (s':={ s' with heap:=h' }) J.os ⟨λb o e n hb hx=>(hs.2 b (ne b o e)).trans (u.keep b o e n hb hx),λb o e n hb hx=>?_,u.free,λb o e hx=>?_,u.tups,u.frzs,u.tbls⟩ (λb o e=>?_) J.bare λb hb=>?_
 ·obtain⟨sl,q⟩:=u.slot b o e n hb hx;exact⟨sl,(hs.2 b (ne b o e)).trans q⟩
 ·obtain⟨o',q⟩:=u.there b o e hx;exact⟨o',(hs.2 b (ne b o e)).trans q⟩
 ·refine(J.hok b o e).stay (λc v hc q=>(hs.2 c ?_).trans q) (λ_ q=>q) λ_ _ q=>q
  rintro rfl;rcases hc with z | z
  ·rw[<- z,hC] at e;cases e
  ·rw[hC] at z;cases z
 ·obtain⟨f0,f1,f2,f3,f4,f5⟩:=hf b hb;exact⟨f3,f1,f4,f5⟩
end
def Wk:St->St->Prop
 |[],[]=>True
 |none::a,_::b=>Wk a b
 |some v::a,some u::b=>v=u/\Wk a b
 |_,_=>False
theorem Wk.len:∀{a b:St},Wk a b->a.length=b.length
 |[],[],_=>rfl
 |none::a,_::b,h=>congrArg (·+1) (Wk.len (a:=a) (b:=b) h)
 |some v::a,some u::b,h=>congrArg (·+1) (Wk.len (a:=a) (b:=b) h.2)
 |[],_::_,h=>h.elim
 |some _::_,[],h=>h.elim
 |none::_,[],h=>h.elim
 |some _::_,none::_,h=>h.elim
theorem Wk.get:∀{a b:St},Wk a b->∀(i:Nat) v,a[i]? = some (some v)->b[i]? = some (some v)
 |[],[],_,i,v,h=>by simp at h
 |none::a,x::b,h,0,v,e=>by simp at e
 |none::a,x::b,h,i+1,v,e=>by
  simp only[QgB] at e ⊢;exact Wk.get (a:=a) (b:=b) h i v e
 |some q::a,some u::b,h,0,v,e=>by
  simp only[QgA] at e ⊢;rw[<- h.1];exact e
 |some q::a,some u::b,h,i+1,v,e=>by
  simp only[QgB] at e ⊢;exact Wk.get (a:=a) (b:=b) h.2 i v e
 |[],_::_,h,_,_,_=>h.elim
 |some _::_,[],h,_,_,_=>h.elim
 |none::_,[],h,_,_,_=>h.elim
 |some _::_,none::_,h,_,_,_=>h.elim
theorem Inv.wk{X:Cx}{pins:List (Addr×Obj)}{σ σ':St}{H:Hp}{s:Shared}(I:Inv X pins σ H s)(h:Wk σ' σ):Inv X pins σ' H s:=I.weak h.len h.get
def QiW(J:It)(body:V->Hp->(Hp->Prop)->Prop)(Qn:Hp->Prop)(H:Hp):Prop:=
 ∃W:Nat->Nat->Hp->Prop,(∃m,W 0 m H)/\∀i m H2,W i m H2->(J.stop i H2/\Qn H2)∨(J.go i H2/\∀x H3,J.yld i H2 x H3->body x H3 λH6=>∃m',m'<m/\W (i+1) m' H6)
abbrev Act:=(Shared->Prop)->Shared->Prop
def BodyOk(Y:Cx)(σ:St)(act:Act)(b:Hp->(Hp->Prop)->Prop):Prop:=
 ∀(pins:List (Addr×Obj))(s:Shared)(H:Hp)(k:Hp->Prop)(Q:Shared->Prop),Inv Y pins σ H s->b H k->(∀s' H',Inv Y pins σ H' s'->k H'->Q s')->act Q s
theorem QaG{Y:Cx}{σ:St}{tg:QL}{elt:QL}{gens:List Qd6}{scope:ZK}{cpos:Pos}{d:Nat}{it D:Addr}{fp:List Addr}{tn:Nat->JM->Prop}{J:It}{pins:List (Addr×Obj)}{s:Shared}{H:Hp}{body:V->Hp->(Hp->Prop)->Prop}{Qn:Hp->Prop}{R:Qhp->Shared->Prop}{act:Value->Act}
  (hc:Y.calm=true)(T:Turn Y.prog Y.w Y.K tg J fp it tn)(st:tn 0 s.heap)(hf:∀b∈fp,FpOk Y pins H b)
  (hturn:∀(Q:PySem.Fin->Shared->Prop)(E:Value->Shared->Prop)(s:Shared),wpAny (model Y.prog Y.w) Y.A (pyNext (.ref it)) (λr s1=>match r with
   |none=>Q (.done .next) s1
   |some v=>wpAny (model Y.prog Y.w) Y.A (letOwnedTupleGo tg (.ref it) v) (λ_ s2=>act v (λs3=>Q (.again (.compLoop (.ListComp elt gens scope cpos) d (.ref it) (.ref D) Y.env)) s3) s2) E s1) E s ->
   wpAny (model Y.prog Y.w) Y.A (compTurn (.ListComp elt gens scope cpos) d (.ref it) (.ref D) Y.env) Q E s)
  (hact:∀(x:V)(u:Value),RelV x u->BodyOk Y σ (act u) (body x))
  (I:Inv Y pins σ H s)(h:QiW J body Qn H)(hR:∀s' H',Inv Y pins σ H' s'->Qn H'->R (.ok .next) s') :
  codeAny (model Y.prog Y.w) Y.A (.compLoop (.ListComp elt gens scope cpos) d (.ref it) (.ref D) Y.env) R s:=by
 obtain⟨W,⟨m0,w0⟩,turn⟩:=h;have stat:∀{H':Hp},(∀b∈fp,H' b=none)->∀b∈fp,FpOk Y pins H' b:=λhn b hb=>⟨hn b hb,(hf b hb).2⟩
 refine codeAny_loop rfl (λn s'=>∃i H',Inv Y pins σ H' s'/\tn i s'.heap/\(∀b∈fp,H' b=none)/\W i n H') (λn s3 hI=>?_) m0 ⟨0,H,I,st,λb hb=>(hf b hb).1,w0⟩;show wpAny _ Y.A ((compTurn (.ListComp elt gens scope cpos) d (.ref it) (.ref D) Y.env).onRaise (λx=>do noteFrame x Y.env;theTreesLotGoes x)) _ _ s3;refine wpAny_noted (hturn _ _ _ ?_);obtain⟨i,H3,I3,st3,fr3,w3⟩:=hI;rcases turn i n H3 w3 with⟨stop,qn⟩ | ⟨go,step⟩
 ·refine thn (T.done Y rfl rfl rfl hc i pins s3 σ H3 _ I3 (stat fr3) st3 stop) λr s4 ⟨hr,I4⟩=>?_
  subst hr;exact hR s4 H3 I4 qn
 ·refine thn (T.item Y rfl rfl rfl hc i pins s3 σ H3 _ I3 (stat fr3) st3 go) λr s4 ⟨u,hr,h4⟩=>?_
  subst hr;refine thn h4 λ_ s5 ⟨x,H5,I5,r5,y5,st5,fr5⟩=>?_
  have I5':=I5.pinned (stat fr5) (T.obj _ _ st5);refine hact x u r5 _ s5 H5 _ _ I5' (step x H5 y5) λs7 H7 I7 ⟨m',hm,w7⟩=>?_
  refine⟨rfl,m',hm,i+1,H7,I7.unpinned,T.keep _ _ _ st5 λb hb o e=>(I7.pin (b,o) (QJ _ (QJ _ (Z8 hb e)))).1,λb hb=>?_,w7⟩;obtain⟨o,e,dd⟩:=T.obj _ _ st5 b hb;exact(I7.pin (b,o) (QJ _ (QJ _ (Z8 hb e)))).2.1
abbrev QiT (ifs:List QL) (env:Env):Sem Bool:=forIn ifs true λc r=>if r=true then do let ok <- isTrue c env (eval c env);pure (Za ok) else pure (Za r)
def PTs(Y:Cx)(ifs:List QL)(t:TT):Prop:=
 ∀(pins:List (Addr×Obj))(s:Shared)(σ:St)(H:Hp)(Q:Bool->Hp->Prop),Inv Y pins σ H s->t σ H Q->wpAny (model Y.prog Y.w) Y.A (QiT ifs Y.env) (TP Y pins σ Q) Y.xe s
def Qov:TT:=λ_ H Q=>Q true H
theorem Qo1{Y:Cx}:PTs Y [] Qov:=λpins s σ H Q I h=>wpAny_tests_nil ⟨H,I,h⟩
theorem Qo0{Y:Cx}{c:QL}{t:TT}(h:PT Y c t):PTs Y [c] t:=λpins s σ H Q I q=>wpAny_tests_one (h pins s σ H Q I q)
def Qnn(Y:Cx)(tg:QL)(ifs:List QL)(inner:Act):Value->Act:=λu Q s=>
 wpAny (model Y.prog Y.w) Y.A (assign tg Y.env u) (λ_ s4=>wpAny (model Y.prog Y.w) Y.A (QiT ifs Y.env) (λok s5=>if ok=true then inner Q s5 else Q s5) (λ_ _=>False) s4) (λ_ _=>False) s
def bOf(σ:St)(g:TG)(tc:TT)(inner:St->Hp->(Hp->Prop)->Prop):V->Hp->(Hp->Prop)->Prop:=λx H k=>g x σ H λσ4 H4=>Wk σ σ4/\tc σ4 H4 λb H5=>
 if b=true then inner σ4 H5 k else k H5
theorem Qda{Y:Cx}{σ:St}{tg:QL}{ifs:List QL}{g:TG}{tc:TT}{inner:Act}{ri:St->Hp->(Hp->Prop)->Prop}(hx:Y.xe=λ_ _=>False)(hg:PG Y tg g)(ht:PTs Y ifs tc)(he:∀σ4,BodyOk Y σ4 inner (ri σ4))(x:V)(u:Value)(r:RelV x u) :
  BodyOk Y σ (Qnn Y tg ifs inner u) (bOf σ g tc ri x):=by
 intro pins s H k Q I h hQ;have hx':∀(v:Value)(s':Shared),Y.xe v s'->False:=λv s' z=>by rw[hx] at z;exact z
 refine wpAny_mono (hg pins s σ H x u _ I r h) (λ_ s4 ⟨σ4,H4,I4,wk,q4⟩=>?_) hx';refine wpAny_mono (ht pins s4 σ4 H4 _ I4 q4) (λb s5 ⟨H5,I5,q5⟩=>?_) hx';cases b with
 |false=>
  rw[if_neg Qr] at q5;rw[if_neg Qr];exact hQ s5 H5 (I5.wk wk) q5
 |true=>
  rw[if_pos rfl] at q5;rw[if_pos rfl];exact he σ4 pins s5 H5 k Q I5 q5 λs' H' I' k'=>hQ s' H' (I'.wk wk) k'
def Qla(Y:Cx)(elt:QL)(D:Addr):Act:=λQ s=>wpAny (model Y.prog Y.w) Y.A (eval elt Y.env) (λv s6=>wpAny (model Y.prog Y.w) Y.A (call (.builtin "list.append") [.ref D,v]) (λ_ s7=>Q s7) (λ_ _=>False) s6) (λ_ _=>False) s
def Qt5(p:Addr)(te:TE):St->Hp->(Hp->Prop)->Prop:=λσ H k=>te σ H λv H6=>∃ys,H6 p=some (.lst ys)/\ys.length<sizeLine/\k (upd H6 p (.lst (ys++[v])))
theorem QcD{Y:Cx}{σ:St}{elt:QL}{te:TE}{D:Addr}(hx:Y.xe=λ_ _=>False)(he:PE Y elt te):BodyOk Y σ (Qla Y elt D) (Qt5 D te σ):=by
 intro pins s H k Q I h hQ;have hx':∀(v:Value)(s':Shared),Y.xe v s'->False:=λv s' z=>by rw[hx] at z;exact z
 refine wpAny_mono (he pins s σ H _ I h) (λv s6 ⟨y,H6,I6,r6,ys,e,hz,q⟩=>?_) hx';exact wpAny_mono (Qj6 (X:=Y) pins s6 σ H6 (.ref D) [y] (.ref D) [v] (λ_ H'=>k H') I6 rfl (.cons r6 .nil) ⟨D,ys,y,rfl,rfl,e,hz,q⟩) (λ_ s7 ⟨_,H7,I7,_,q7⟩=>hQ s7 H7 I7 q7) hx'
theorem Qeb{Y:Cx}{elt tg iter:QL}{ifs:List QL}{scope:ZK}{cpos:Pos}{it D:Addr}(Q:PySem.Fin->Shared->Prop)(E:Value->Shared->Prop)(s:Shared)
  (h:wpAny (model Y.prog Y.w) Y.A (pyNext (.ref it)) (λr s1=>match r with
   |none=>Q (.done .next) s1
   |some v=>wpAny (model Y.prog Y.w) Y.A (letOwnedTupleGo tg (.ref it) v) (λ_ s2=>Qnn Y tg ifs (Qla Y elt D) v (λs3=>Q (.again (.compLoop (.ListComp elt [⟨tg,iter,ifs,0⟩] scope cpos) 0 (.ref it) (.ref D) Y.env)) s3) s2) E s1) E s) :
  wpAny (model Y.prog Y.w) Y.A (compTurn (.ListComp elt [⟨tg,iter,ifs,0⟩] scope cpos) 0 (.ref it) (.ref D) Y.env) Q E s:=by
 rw[compTurn_list];refine wpAny_bind (wpAny_standAt (wpAny_bind (thn h λr s1 h1=>?_)));cases r with
 |none=>exact Qj h1
 |some v=>
  refine wpAny_bind (thn h1 λ_ s2 h2=>?_);refine wpAny_bind (wpAny_mono h2 (λ_ s4 h4=>wpAny_bind (wpAny_mono h4 (λok s5 h5=>?_) λ_ _ f=>f.elim)) λ_ _ f=>f.elim);cases ok with
  |false=>exact Qj h5
  |true=>exact wpAny_bind (wpAny_bind (wpAny_mono h5 (λx s6 h6=>wpAny_bind (wpAny_mono h6 (λ_ s7 h7=>Qj (Qj h7)) λ_ _ f=>f.elim)) λ_ _ f=>f.elim))
def tComp(cap:List (Option Nat))(wi:TI)(g:TG)(tc:TT)(te:TE):TE:=λσ H Q=>wi σ H λJ H1=>∀p,H1 p=none->QiW J (bOf (Qb9 cap σ) g tc (Qt5 p te)) (Q (.ref p)) (upd H1 p (.lst []))
theorem FpOk.upd{X:Cx}{pins:List (Addr×Obj)}{H:Hp}{b a:Addr}{o:HO}(h:FpOk X pins H b)(hne:b≠a):FpOk X pins (upd H a o) b:=⟨by rw[Jb hne];exact h.1,h.2⟩
theorem Ql7{X:Cx}{M:List Str}{cap:List (Option Nat)}{elt tg iter:QL}{ifs:List QL}{scope:ZK}{pos:Pos}{wi:TI}{g:TG}{tc:TT}{te:TE}(hc:X.calm=true)(ok:Qca X.N X.env.scope M scope cap=true)
  (hi:PI X tg iter wi)(hb:∀cl ex s3 H3 C,PG (blk X M scope cl ex s3 H3 C) tg g/\PTs (blk X M scope cl ex s3 H3 C) ifs tc/\PE (blk X M scope cl ex s3 H3 C) elt te)
  (hs:∀x,foldedSetIterable iter X.env x=pure x:=by intro _;rfl):PE X (.ListComp elt [⟨tg,iter,ifs,0⟩] scope pos) (tComp cap wi g tc te):=by
 intro pins s σ H Q I h;have c:=CapOk.of ok;rw[eval_ListComp];refine Yn (use:=none) rfl hs (QeD (I.ok.cells c)) c.kind c.loc ?_
 refine thn (hi pins s σ H _ I h) λv s1 h1=>thn h1 λitv s2 h2=>?_
 obtain⟨it,fp,tn,J,H2,e,I2,T,st2,f2,hW⟩:=h2;subst e;refine JD (Yf c.cell (by intro y hy;simp at hy) (λh₁ hns₁ hsb₁=>?_) c.kind);have I3:Inv X pins σ (upd H2 s2.heap.objs.size (.lst [])) { s2 with heap:=s2.heap.push { cls:=.type "list",data:=.seq ([]:List Value).toArray } }:=I2.lnew (t':=s2.toks) (ys:=[]) .nil (Jx _);have lt2:∀b∈fp,b<s2.heap.objs.size:=λb hb=>by obtain⟨o,e,_⟩:=T.obj _ _ st2 b hb;exact Qi e
 have f3:∀b∈fp,FpOk X pins (upd H2 s2.heap.objs.size (.lst [])) b:=λb hb=>(f2 b hb).upd (Qs (lt2 b hb))
 generalize hs3:({ s2 with heap:=s2.heap.push { cls:=.type "list",data:=.seq ([]:List Value).toArray } }:Shared)=s3 at I3;have e3:s3.heap=s2.heap.push { cls:=.type "list",data:=.seq ([]:List Value).toArray }:=by rw[<- hs3]
 have z3:s3.heap.objs.size=s2.heap.objs.size+1:=by rw[e3,Zd]
 have hk:∀b o,s3.heap.get? b=some o->h₁.get? b=some o:=λb o e=>hsb₁.extBut b o (by
  have:=Qi e;rw[e3] at this;exact Qs this) (Qd _ (e3 ▸ e))
 have hn₁:h₁.Ns s3.heap.objs.size λ_=>none:=by rw[e3];exact hns₁
 have B:=QbB (t4:=s3.toks+([]:List (Str×Value)).length) (fp:=fp) I3 c f3 (λb hb=>by rw[z3];exact Yy (lt2 b hb)) hn₁ hk;have st4:tn 0 h₁:=T.keep _ _ _ st2 λb hb o e=>hk b o (by rw[e3];exact Qd _ e)
 have fp4:∀b∈fp,FpOk (blk X M scope (Qap X.env scope.names []) fp s3 (upd H2 s2.heap.objs.size (.lst [])) s3.heap.objs.size) [] (upd H2 s2.heap.objs.size (.lst [])) b:=λb hb=>by
  refine⟨(f3 b hb).1,(B.ok.exf b hb).1,B.ok.exfs b hb,.inl hb,(B.ok.exf b hb).2,λp hp=>(nomatch hp)⟩
 obtain⟨hg,ht,he⟩:=hb (Qap X.env scope.names []) fp s3 (upd H2 s2.heap.objs.size (.lst [])) s3.heap.objs.size;have loop:codeAny (model X.prog X.w) X.A (.compLoop (.ListComp elt [⟨tg,iter,ifs,0⟩] scope pos) 0 (.ref it) (.ref s2.heap.objs.size) (compEnvC scope (Qap X.env scope.names []) s3.heap.objs.size X.env))
   (compPost (model X.prog X.w) X.A X.xe none (EP X pins σ Q) (.ref s2.heap.objs.size) s3.heap.objs.size) { s3 with heap:=h₁,toks:=s3.toks+([]:List (Str×Value)).length }:=by
  refine QaG (Y:=blk X M scope (Qap X.env scope.names []) fp s3 (upd H2 s2.heap.objs.size (.lst [])) s3.heap.objs.size) (gens:=[⟨tg,iter,ifs,0⟩]) (d:=0) hc T st4 fp4
   (λQ E s h=>Qeb Q E s h) (λx u r=>Qda rfl hg ht (λσ4=>QcD rfl he) x u r) B (hW _ (I2.hok.fresh (Ql _))) λs' H' I' q=>?_
  obtain⟨m,hn,_⟩:=I'.loc;exact⟨m,hn,λh' hs'=>⟨.ref s2.heap.objs.size,H',Qgu I3 f3 I' hs',rfl,q⟩⟩
 exact YF loop (T.self _ 0 _ _ _ st4 loop)
section
variable{X:Cx}
theorem Qgt:CallR X (.builtin "isinstance") (λxs H Q=>∃x t T b,xs=[x,.ty T]/\TyOf X.K H x t/\PySem.W.kitOne X.K t (.type T)=some b/\Q (.bl b) H):=by
 intro pins s σ H xs us Q I r h;obtain⟨x,t,T,b,rfl,ty,e,q⟩:=h;obtain⟨u,v,rfl,ru,rv⟩:=vals2 r;cases(show v=QcG T from rv);exact Qkj I ru ty e λtk=>⟨.bl b,H,I.tok tk,rfl,q⟩
theorem Qhj{bs:List Bool}:∀{us:List Value},Vals (bs.map V.bl) us->LSm.BoolsAre us bs:=by
 induction bs with
 |nil=>intro us r;cases r;exact .nil
 |cons b bs ih=>
  intro us r;cases r with
  |cons r t=>
   cases(show _=Zo b from r);exact .cons b (ih t)
theorem Qbz:CallR X (.builtin "all") (λxs H Q=>∃(p:Addr)(bs:List Bool),xs=[.ref p]/\SqL X.K H p (bs.map V.bl)/\X.calm=true/\Q (.bl (bs.all id)) H):=by
 intro pins s σ H xs us Q I r h;obtain⟨p,bs,rfl,hp,hc,q⟩:=h;obtain⟨u,rfl,ru⟩:=vals1 r;cases ru;obtain⟨its,rv,pl,hz⟩:=I.list hp;have hl:=pl.isList;have hb:=Qhj rv;have hlt:p<s.heap.objs.size:=by obtain⟨_,e,_⟩:=hl;exact Qi e
 refine call_all_walk (Qa1 hl ?_);refine⟨s.heap.objs.size,[s.heap.objs.size,p],[s.heap.objs.size],its.toArray.size,_,_,λi=>(bs[i]?).getD true,rfl,Walks.list (A:=X.A.in1) (I.ok.hd hc) _ p (Qs hlt) its.toArray,
  ⟨⟨_,Qp _ rfl,rfl,rfl⟩,hl.push _⟩,λi v s' Q' E' hP hQ=>?_,λh' tk hk=>?_⟩
 ·obtain⟨b,e,rfl⟩:=hb.get i v (by simpa using hP);simp only[e,Qln] at hQ;exact Jy hQ
 ·have e:((Q9 its.toArray.size).all λi=>(bs[i]?).getD true)=bs.all id:=by
   rw[Qo,hb.length];exact LSm.range_all bs
  rw[e];exact⟨.bl _,H,I.kept (Qht hk),rfl,q⟩
def Qwg:V->Option Int->Option Int->Hp->VK->Prop:=λx lo hi H Q=>∃a xs,x=.ref a/\H a=some (.tup xs)/\∀p H',Same H H'->H' p=some (.tup (Qix xs lo hi))->Q (.ref p) H'
theorem Jk{H:Hp}{p:Addr}{o:HO}(h:H p=none):Same H (upd H p o):=λb u e=>by rw[Jb (JK e h)];exact e
theorem Qa8{prog:QD}{w:Je}{A:Q5}{E:Value->Shared->Prop}{s:Shared}{t sl:Addr}{items:Array Value}{vl vu:Value}{lo hi:Option Int}{Q:Value->Shared->Prop}(ht:IsTup s.heap t items)(hs:s.heap.IsSliceOf sl vl vu .none)(pl:QfM vl lo)(pu:QfM vu hi)
  (h1:HT.sIx items.size 0 lo=0)(h2:HT.sIx items.size items.size hi=items.size)(h:Q (.ref t) s):wpAny (model prog w) A (getItem (.ref t) (.ref sl)) Q E s:=by
 obtain⟨os,hos,hcs,hds⟩:=id hs;have hTs:s.TypeIs (.ref sl) "slice" := ⟨os,hos,hcs⟩;unfold getItem
 try with_reducible refine JN ?_
 first | refine wpAny_bind (Qj ?_) | skip
 refine wpAny_bind (QuF ht.typeIs (by decide) ?_);refine wpAny_bind (Zl (name:=Qam "__getitem__") ht.typeIs Jz
  (ZY Jz ht.typeIs QrU ?_ (Que _ _)))
 show wpAny _ _ (Qce (.ref t) >>= _) _ _ s;refine wpAny_bind (tupleItemsOf_ ht ?_);refine wpAny_bind (Qof hTs ?_);rw[if_pos (by decide)];refine wpAny_bind (HT.Qao hs pl pu ?_);show wpAny _ _ (if(((HT.sIx items.size 0 lo:Nat):Int) == 0&&(1:Int) == 1&&(HT.sIx items.size items.size hi - HT.sIx items.size 0 lo) == items.size)=true then _ else _) _ _ s;rw[if_pos (by rw[h1,h2];simp)];refine wpAny_bind (m:=Qu2 _) (wpAny_bind (Qof ht.typeIs (Qj ?_)));rw[if_pos (by decide)];exact wpAny_bind (wpAny_rule (Qj ⟨_,rfl,Qj h⟩))
theorem Qsj:SlR X Qwg:=by
 intro pins s σ H x v vl vu lo hi sl Q I rx hs pl pu h;obtain⟨a,xs,rfl,hx,q⟩:=h;by_cases hw:HT.sIx xs.length 0 lo=0/\HT.sIx xs.length xs.length hi=xs.length
 ·cases rx;obtain⟨its,r,ht,hz⟩:=I.tuple (SqT.of hx);have hlen:its.toArray.size=xs.length:=by rw[Qo];exact r.length.symm
  refine⟨"tuple",_,Jz.lookup,ht.typeIs,?_⟩;refine Qa8 ht hs pl pu (by rw[hlen];exact hw.1) (by rw[hlen];exact hw.2) ?_
  refine⟨.ref a,H,I,rfl,q a H (Same.refl H) ?_⟩;have e:Qix xs lo hi=xs:=by
   unfold Qix;rw[hw.1,hw.2];simp
  rw[e];exact hx
 ·exact Qsi pins s σ H (.ref a) v vl vu lo hi sl Q I rx hs pl pu ⟨a,xs,rfl,SqT.of hx,hw,λp hp=>q p _ (Jk hp) Jc⟩
def Qst:R2:=λx y H Q=>∃a b xs ys,x=.ref a/\y=.ref b/\H a=some (.tup xs)/\H b=some (.tup ys)/\xs.length+ys.length<=sizeLine/\∀p H',Same H H'->H' p=some (.tup (xs++ys))->Q (.ref p) H'
theorem QpG:OpR X (binaryOp .Add) Qst:=by
 intro pins s σ H x y v u Q I rx ry h;obtain⟨a,b,xs,ys,rfl,rfl,ha,hb,hz,q⟩:=h;by_cases hx:xs=[]
 ·subst hx;cases rx;cases ry;obtain⟨its,r1,p1,_⟩:=I.tuple (SqT.of ha);obtain⟨its2,r2,p2,_⟩:=I.tuple (SqT.of hb);cases r1;obtain⟨⟨cls,dd,data,sl⟩,ho,hc,n,hd⟩:=id p1;obtain⟨⟨cls2,dd2,data2,sl2⟩,ho2,hc2,n2,hd2⟩:=id p2;simp only at hc hd hc2 hd2;subst hc hd hc2 hd2;exact Qoi ⟨_,ho,rfl⟩ ⟨_,ho2,rfl⟩ QfQ Qlj PySem.F.slot_tuple_add PySem.F.entry_tuple_add (PySem.F.args_tuple_add_2 _ _)
   (tuple_addW0 a b #[] its2.toArray n n2 dd dd2 sl sl2 rfl) ⟨ho,ho2,⟨.ref b,H,I,rfl,q b H (Same.refl H) hb⟩⟩
 ·exact QpF pins s σ H _ _ v u Q I rx ry ⟨a,b,xs,ys,rfl,rfl,SqT.of ha,SqT.of hb,hx,hz,λe=>q a H (Same.refl H) (by rw[e,Zk];exact ha),λ_ p hp=>q p _ (Jk hp) Jc⟩
def Qve:TE:=λ_ H Q=>∀p,H p=none->Q (.ref p) (upd H p (.dK []))
theorem Qpc{pos:Pos}:PE X (.Dict [] [] pos) Qve:=λpins s σ H Q I h=>by
 refine wpAny_Dict_empty ⟨.ref s.heap.objs.size,_,I.laid (a:=s.heap.objs.size) (o:=.dK []) (t':=s.toks) (λ_ _ q=>Qd _ q) (Ql _) ?_,rfl,h _ (I.hok.fresh (Ql _))⟩;have hb:sysModules<s.heap.objs.size:=Nat.lt_trans (by decide) (I.mod.glob.keeps I.bk).lt;exact⟨Jx _,beq_eq_false_iff_ne.mpr (Qaz (Qs hb)),[],.nil,Heap.DictOf.new s.heap⟩
end
end L2
namespace Rz
open Sem (wp)
section
variable{prog:QD}{w:Je}{A:Q5}{E:Value->Shared->Prop}{s:Shared}
theorem QcA{it t:Addr}{i:Nat}{items:Array Value}{x:Value}{Q:Value->Shared->Prop}(hit:s.heap.IsTupleIter it t i)(ht:s.heap.IsTuple t items)(hx:items[i]? = some x)
  (hQ:∀h',h'.IsTupleIter it t (i+1)->Qac it s.heap h'->Q x { s with heap:=h' }):wpAny (model prog w) A (Jq (.ref it)) Q E s:=by
 obtain⟨o,ho,hc,hd⟩:=id hit;obtain⟨ol,hol,_,nl,hdl⟩:=ht;unfold Jq;refine wpAny_bind (Zl (name:=Qam "__next__") hit.typeIs Ya
  (ZY Ya hit.typeIs QfS ?_ (QfN _)))
 show wpAny _ _ (field (.ref it) 0 >>= _) _ _ s;refine wpAny_bind (J3 ho hd (x:=.ref t) rfl ?_);show wpAny _ _ (if(JG t == Ye)=true then _ else _) _ _ s;rw[if_neg (show ¬((JG t == Ye)=true) from Qr)];show wpAny _ _ (field (.ref it) 1 >>= _) _ _ s;refine wpAny_bind (J3 ho hd (x:=.int i 0) rfl ?_);show wpAny _ _ (seqItems? (.ref t) >>= _) _ _ s;refine wpAny_bind (JU hol hdl ?_);simp only[Z4,hx];refine wpAny_bind (wpAny_setField ho hd (by simp) (Qj ⟨x,rfl,Qj (hQ _ ?_ (QeQ ..))⟩));exact⟨_,YA _ ho (Obj.isFreed_of_fields (Qnt hd _)),(Obj.cls_mapFields ..).trans hc,by
  rw[Qnt hd];simp[rawInt]⟩
theorem Qgd{it t:Addr}{i:Nat}{items:Array Value}{Q:Value->Shared->Prop}(hh:A.handled=none)(hit:s.heap.IsTupleIter it t i)(ht:s.heap.IsTuple t items)(hx:items[i]? = none)
  (hE:∀h' e,Heap.ExtBut it s.heap h'->(∃o,h'.get? e=some o/\o.cls=.type "StopIteration")->E (.ref e) { s with heap:=h' }):wpAny (model prog w) A (Jq (.ref it)) Q E s:=by
 obtain⟨o,ho,hc,hd⟩:=id hit;obtain⟨ol,hol,_,nl,hdl⟩:=ht;unfold Jq;refine wpAny_bind (Zl (name:=Qam "__next__") hit.typeIs Ya
  (ZY Ya hit.typeIs QfS ?_ (QfN _)))
 show wpAny _ _ (field (.ref it) 0 >>= _) _ _ s;refine wpAny_bind (J3 ho hd (x:=.ref t) rfl ?_);show wpAny _ _ (if(JG t == Ye)=true then _ else _) _ _ s;rw[if_neg (show ¬((JG t == Ye)=true) from Qr)];show wpAny _ _ (field (.ref it) 1 >>= _) _ _ s;refine wpAny_bind (J3 ho hd (x:=.int i 0) rfl ?_);show wpAny _ _ (seqItems? (.ref t) >>= _) _ _ s;refine wpAny_bind (JU hol hdl ?_);simp only[Z4,hx];refine wpAny_bind (wpAny_rule (wpAny_bind (wpAny_setField ho hd (by simp) ?_)));show wpAny _ _ (newExc (.type "StopIteration") [] >>= _) _ _ _;refine wpAny_bind ?_
 simp only[newExc,newTuple];refine wpAny_bind (JD ?_ (by size_fits));refine wpAny_bind (m:=firstArgMember _ _) (wpAny_of_eq (a:=Ye) (by first | rfl | (simp only[firstArgMember];rfl)) ?_);refine JD ?_ (by size_fits)
 simp only[raiseNew];refine wpAny_bind (wpAny_handled ?_)
 first | rw[show A.in1.handled=none from hh] | rw[hh]
 refine wpAny_bind (Qj (wpAny_throw ?_));exact hE _ _ (((QeQ ..).extBut.push _).push _) ⟨_,Qp _ rfl,rfl⟩
structure Apart (z TI TO i1 i2 t1 t2:Addr):Prop where
 a1:TI≠z
 a2:TO≠z
 a3:i1≠z
 a4:i2≠z
 a5:TI≠TO
 a6:TI≠i1
 a7:TI≠i2
 a8:TO≠i1
 a9:TO≠i2
 b1:i1≠i2
 b2:t1≠z/\t1≠TO/\t1≠i1/\t1≠i2
 b3:t2≠z/\t2≠TO/\t2≠i1/\t2≠i2
structure Qlb (h:JM) (z TI TO i1 i2 t1 t2:Addr) (f:Value) (k:Nat):Prop where
 zp:Qor h z TI TO f
 ti:IsPair h TI (.ref i1) (.ref i2)
 to:∃a b,IsPair h TO a b
 i1:h.IsTupleIter i1 t1 k
 i2:h.IsTupleIter i2 t2 k
theorem QjZ{z TI TO i1 i2 t1 t2:Addr}{k:Nat}{xs ys:Array Value}{x y:Value}{Q:Option Value->Shared->Prop}(D:Apart z TI TO i1 i2 t1 t2)(Z:Qlb s.heap z TI TO i1 i2 t1 t2 .none k)
  (hl1:s.heap.IsTuple t1 xs)(hl2:s.heap.IsTuple t2 ys)(hx:xs[k]? = some x)(hy:ys[k]? = some y)
  (hQ:∀h',Qlb h' z TI TO i1 i2 t1 t2 (rawInt s.heap.objs.size) (k+1)->IsPair h' s.heap.objs.size x y->(∀c o,c≠z->c≠TO->c≠i1->c≠i2->s.heap.get? c=some o->h'.get? c=some o)->Q (some (.ref s.heap.objs.size)) { s with heap:=h' }) :
  wpAny (model prog w) A (pyNext (.ref z)) Q E s:=by
 obtain⟨hz,hTI,⟨a,b,hTO⟩,h1,h2⟩:=Z;have hT:s.TypeIs (.ref z) "zip" := ⟨_,hz,rfl⟩;unfold pyNext;refine wpAny_bind (QdX (Zl (name:=Qam "__next__") hT QbJ (ZY QbJ hT Qup ?_ (Qr0 _))));show wpAny _ _ (field (.ref z) 2 >>= _) _ _ _;refine wpAny_bind (J3 hz rfl (x:=.bool false) rfl ?_);show wpAny _ _ (field (.ref z) 3 >>= _) _ _ _;refine wpAny_bind (J3 hz rfl (x:=.ref TI) rfl (wpAny_bind (JU hTI rfl ?_)));show wpAny _ _ (JX (.ref z) >>= _) _ _ _;refine wpAny_bind ?_
 unfold JX;refine wpAny_bind (J3 hz rfl (x:=.none) rfl (Qj ?_));simp only[if_true];refine wpAny_bind (wpAny_rule (wpAny_bind (J3 hz rfl (x:=.ref TO) rfl (wpAny_bind (Z2 hz (by simp) λg1 z1 s1=>?_)))))
 replace z1:Qor g1 z TI TO .ellipsis:=z1
 refine wpAny_bind ?_
 simp only[Qoo,QrL,QeP,QrY];refine wpAny_bind (wpAny_bind (QdW ?_));show wpAny _ _ (Jq (.ref i1) >>= _) _ _ _;refine wpAny_bind (QcA (h1.extBut s1.extBut D.a3) (hl1.extBut s1.extBut D.b2.1) hx λg2 p2 s2=>Qj ?_);have o2:IsPair g2 TO a b:=s2.extBut _ _ D.a8 (s1.extBut _ _ D.a2 hTO);refine wpAny_bind (JU o2 rfl (wpAny_bind (QcE o2 λg3 o3 s3=>wpAny_bind (Qat (Qj ?_)))))
 replace o3:IsPair g3 TO x b:=o3
 refine wpAny_bind (wpAny_bind (QdW ?_));show wpAny _ _ (Jq (.ref i2) >>= _) _ _ _;refine wpAny_bind (QcA (((h2.extBut s1.extBut D.a4).extBut s2.extBut D.b1.symm).extBut s3.extBut D.a9.symm)
  (((hl2.extBut s1.extBut D.b3.1).extBut s2.extBut D.b3.2.2.1).extBut s3.extBut D.b3.2.1) hy λg4 p4 s4=>Qj ?_)
 have o4:IsPair g4 TO x b:=s4.extBut _ _ D.a9 o3;refine wpAny_bind (JU o4 rfl (wpAny_bind (QcE o4 λg5 o5 s5=>wpAny_bind (Qat (Qj (Qj ?_))))))
 replace o5:IsPair g5 TO x y:=o5
 refine wpAny_bind (JU o5 rfl (wpAny_bind (wpAny_newTuple ?_)));have sz:g5.objs.size=s.heap.objs.size:=by rw[s5.1,s4.1,s3.1,s2.1,s1.1]
 have kp:∀c o,c≠z->c≠TO->c≠i1->c≠i2->s.heap.get? c=some o->g5.get? c=some o:=λc o c1 c2 c3 c4 e=>
  s5.extBut _ _ c2 (s4.extBut _ _ c4 (s3.extBut _ _ c2 (s2.extBut _ _ c3 (s1.extBut _ _ c1 e))))
 have z5:Qor g5 z TI TO .ellipsis:=s5.extBut _ _ D.a2.symm (s4.extBut _ _ D.a4.symm (s3.extBut _ _ D.a2.symm (s2.extBut _ _ D.a3.symm z1)));have q1:g5.IsTupleIter i1 t1 (k+1):=((p2.extBut s3.extBut D.a8.symm).extBut s4.extBut D.b1).extBut s5.extBut D.a8.symm;have q2:g5.IsTupleIter i2 t2 (k+1):=p4.extBut s5.extBut D.a9.symm;show wpAny _ _ (Y2 (.ref z) (.ref g5.objs.size) >>= _) _ _ _;refine wpAny_bind ?_
 unfold Y2;have z6:Qor (g5.push { cls:=.type "tuple",data:=.seq #[x,y] }) z TI TO .ellipsis:=Qd _ z5;refine wpAny_bind (Z2 z6 (by simp) λg7 z7 s7=>?_)
 replace z7:Qor g7 z TI TO (rawInt g5.objs.size):=z7
 refine Z2 z7 (by simp) λg8 z8 s8=>?_
 replace z8:Qor g8 z TI TO (rawInt g5.objs.size):=z8
 have up:∀c o,c≠z->g5.get? c=some o->g8.get? c=some o:=λc o c1 e=>s8.extBut _ _ c1 (s7.extBut _ _ c1 (Qd _ e))
 have ne:g5.objs.size≠z:=Qbi (Qi z5);have t8:IsPair g8 g5.objs.size x y:=s8.extBut _ _ ne (s7.extBut _ _ ne (Qp _ rfl));rw[sz] at z8 t8;refine Qj ⟨_,rfl,Qj ?_⟩;show Q (some (.ref g5.objs.size)) _;rw[sz];exact hQ g8 ⟨z8,up _ _ D.a1 (kp _ _ D.a1 D.a5 D.a6 D.a7 hTI),⟨x,y,up _ _ D.a2 o5⟩,q1.at λo e=>up _ o D.a3 e,q2.at λo e=>up _ o D.a4 e⟩ t8 λc o c1 c2 c3 c4 e=>up c o c1 (kp c o c1 c2 c3 c4 e)
theorem QmO{z TI TO i1 i2 t1 t2:Addr}{k:Nat}{xs ys:Array Value}{Q:Option Value->Shared->Prop}(hh:A.handled=none)(D:Apart z TI TO i1 i2 t1 t2)(Z:Qlb s.heap z TI TO i1 i2 t1 t2 .none k)
  (hl1:s.heap.IsTuple t1 xs)(hl2:s.heap.IsTuple t2 ys)(hend:xs[k]? = none∨ys[k]? = none)
  (hQ:∀h',(∀c o,c≠z->c≠TO->c≠i1->c≠i2->s.heap.get? c=some o->h'.get? c=some o)->Q none { s with heap:=h' }):wpAny (model prog w) A (pyNext (.ref z)) Q E s:=by
 obtain⟨hz,hTI,⟨a,b,hTO⟩,h1,h2⟩:=Z;have hT:s.TypeIs (.ref z) "zip" := ⟨_,hz,rfl⟩;have fin:∀(h':JM)(e:Addr),(∀c o,c≠z->c≠TO->c≠i1->c≠i2->s.heap.get? c=some o->h'.get? c=some o)->(∃o,h'.get? e=some o/\o.cls=.type "StopIteration") ->
   wpAny (model prog w) A (isInstance (.ref e) (.type "StopIteration") >>= λx=>if x=true then pure none else throw (.ref e)) Q E { s with heap:=h' }:=λh' e hk he=>by
  obtain⟨o,ho,hc⟩:=he;refine wpAny_bind (wpAny_isInstance (T := "StopIteration") (b:=true) ⟨o,ho,hc⟩ isSubtype_stop ?_);exact Qj (hQ _ hk)
 unfold pyNext;refine wpAny_bind (QdX (Zl (name:=Qam "__next__") hT QbJ (ZY QbJ hT Qup ?_ (Qr0 _))));show wpAny _ _ (field (.ref z) 2 >>= _) _ _ _;refine wpAny_bind (J3 hz rfl (x:=.bool false) rfl ?_);show wpAny _ _ (field (.ref z) 3 >>= _) _ _ _;refine wpAny_bind (J3 hz rfl (x:=.ref TI) rfl (wpAny_bind (JU hTI rfl ?_)));show wpAny _ _ (JX (.ref z) >>= _) _ _ _;refine wpAny_bind ?_
 unfold JX;refine wpAny_bind (J3 hz rfl (x:=.none) rfl (Qj ?_));simp only[if_true];refine wpAny_bind (wpAny_rule (wpAny_bind (J3 hz rfl (x:=.ref TO) rfl (wpAny_bind (Z2 hz (by simp) λg1 z1 s1=>?_)))))
 replace z1:Qor g1 z TI TO .ellipsis:=z1
 refine wpAny_bind ?_
 simp only[Qoo,QrL,QeP,QrY];refine wpAny_bind (wpAny_bind (QdW ?_));show wpAny _ _ (Jq (.ref i1) >>= _) _ _ _;cases hx:xs[k]? with
 |none=>
  refine wpAny_bind (Qgd hh (h1.extBut s1.extBut D.a3) (hl1.extBut s1.extBut D.b2.1) hx λg2 e s2 he=>?_);obtain⟨oe,hoe,hce⟩:=he;have z2:Qor g2 z TI TO .ellipsis:=s2 _ _ D.a3.symm z1;have hez:e≠z:=λq=>by subst q;rw[z2] at hoe;cases hoe;simp at hce
  refine Z2 z2 (by simp) λg3 _ s3=>?_
  exact fin g3 e (λc o c1 _ c3 _ q=>s3.extBut _ _ c1 (s2 _ _ c3 (s1.extBut _ _ c1 q))) ⟨oe,s3.extBut _ _ hez hoe,hce⟩
 |some x=>
  have hy:ys[k]? = none:=by
   rcases hend with q | q
   ·rw[hx] at q;cases q
   ·exact q
  refine wpAny_bind (QcA (h1.extBut s1.extBut D.a3) (hl1.extBut s1.extBut D.b2.1) hx λg2 p2 s2=>Qj ?_);have o2:IsPair g2 TO a b:=s2.extBut _ _ D.a8 (s1.extBut _ _ D.a2 hTO);refine wpAny_bind (JU o2 rfl (wpAny_bind (QcE o2 λg3 o3 s3=>wpAny_bind (Qat (Qj ?_)))));refine wpAny_bind (wpAny_bind (QdW ?_));show wpAny _ _ (Jq (.ref i2) >>= _) _ _ _;refine wpAny_bind (Qgd hh (((h2.extBut s1.extBut D.a4).extBut s2.extBut D.b1.symm).extBut s3.extBut D.a9.symm)
   (((hl2.extBut s1.extBut D.b3.1).extBut s2.extBut D.b3.2.2.1).extBut s3.extBut D.b3.2.1) hy λg4 e s4 he=>?_)
  obtain⟨oe,hoe,hce⟩:=he;have z4:Qor g4 z TI TO .ellipsis:=s4 _ _ D.a4.symm (s3.extBut _ _ D.a2.symm (s2.extBut _ _ D.a3.symm z1));have hez:e≠z:=λq=>by subst q;rw[z4] at hoe;cases hoe;simp at hce
  refine Z2 z4 (by simp) λg5 _ s5=>?_
  exact fin g5 e (λc o c1 c2 c3 c4 q=>s5.extBut _ _ c1 (s4 _ _ c4 (s3.extBut _ _ c2 (s2.extBut _ _ c3 (s1.extBut _ _ c1 q))))) ⟨oe,s5.extBut _ _ hez hoe,hce⟩
end
abbrev zh1 (h:JM) (t1:Addr):JM:=h.push { cls:=.type "tuple_iterator",data:=.fields #[.ref t1,.int 0 0] }
abbrev zh2 (h:JM) (t1 t2:Addr):JM:=(zh1 h t1).push { cls:=.type "tuple_iterator",data:=.fields #[.ref t2,.int 0 0] }
abbrev zh3 (h:JM) (t1 t2:Addr):JM:=(zh2 h t1 t2).push { cls:=.type "tuple",data:=.seq #[.ref h.objs.size,.ref (zh1 h t1).objs.size] }
abbrev zh4 (h:JM) (t1 t2:Addr):JM:=(zh3 h t1 t2).push { cls:=.type "tuple",data:=.seq #[.none,.none] }
abbrev zh5 (h:JM) (t1 t2:Addr):JM:=(zh4 h t1 t2).push { cls:=.type "zip",data:=.fields #[.none,.bool false,.bool false,.ref (zh2 h t1 t2).objs.size,.ref (zh3 h t1 t2).objs.size] }
theorem Qxf(t1 t2:Addr)(xs ys:Array Value) :
  Meets (Qbl.«zip.__new__» ⟨[.type "zip",.ref t1,.ref t2],[]⟩) (λ_ R s=>s.heap.IsTuple t1 xs/\s.heap.IsTuple t2 ys/\R (.ok (.ret (.ref (zh4 s.heap t1 t2).objs.size))) { s with heap:=zh5 s.heap t1 t2 }):=
 .of_wp λprog w A R s h=>by
  obtain⟨hp,g,d,tk,os⟩:=s;obtain⟨hl1,hl2,h⟩:=h;have hsub:=sub_zip;have k1:Qiq (Qii ⟨hp,g,d,tk,os⟩) t1 xs:=hl1;have k2:Qiq (Qii ⟨hp.push { cls:=.type "tuple_iterator",data:=.fields #[.ref t1,.int 0 0] },g,d,tk,os⟩) t2 ys:=hl2.at λo e=>Qd _ e
  wp_walk using Zz k1,Zz k2
  exact⟨_,rfl,h⟩
section
variable{prog:QD}{w:Je}{A:Q5}{E:Value->Shared->Prop}{s:Shared}
theorem Qnk{t1 t2:Addr}{xs ys:Array Value}{Q:Value->Shared->Prop}(hl1:s.heap.IsTuple t1 xs)(hl2:s.heap.IsTuple t2 ys)
  (h:∀h',Qlb h' (s.heap.objs.size+4) (s.heap.objs.size+2) (s.heap.objs.size+3) s.heap.objs.size (s.heap.objs.size+1) t1 t2 .none 0->(∀c o,s.heap.get? c=some o->h'.get? c=some o)->Q (.ref (s.heap.objs.size+4)) { s with heap:=h' }) :
  wpAny (model prog w) A (call (.type "zip") [.ref t1,.ref t2]) Q E s:=by
 refine callType_new F.called_zip (by decide) (F.typeCall_zip_2 _ _) (F.newCall_zip_2 _ _) (λobj=>F.args_object_init_3 obj _ _) F.entry_zip_new (Qxf t1 t2 xs ys) ⟨hl1,hl2,?_⟩;have z1:(zh1 s.heap t1).objs.size=s.heap.objs.size+1:=Zd ..;have z2:(zh2 s.heap t1 t2).objs.size=s.heap.objs.size+2:=by rw[Zd,z1]
 have z3:(zh3 s.heap t1 t2).objs.size=s.heap.objs.size+3:=by rw[Zd,z2]
 have z4:(zh4 s.heap t1 t2).objs.size=s.heap.objs.size+4:=by rw[Zd,z3]
 have g5:(zh5 s.heap t1 t2).get? (zh4 s.heap t1 t2).objs.size=some _:=Qp _ rfl;have g4:(zh5 s.heap t1 t2).get? (zh3 s.heap t1 t2).objs.size=some _:=Qd _ (Qp _ rfl);have g3:(zh5 s.heap t1 t2).get? (zh2 s.heap t1 t2).objs.size=some _:=Qd _ (Qd _ (Qp _ rfl));have g2:(zh5 s.heap t1 t2).get? (zh1 s.heap t1).objs.size=some _:=Qd _ (Qd _ (Qd _ (Qp _ rfl)));have g1:(zh5 s.heap t1 t2).get? s.heap.objs.size=some _:=Qd _ (Qd _ (Qd _ (Qd _ (Qp _ rfl))));show _/\_;rw[z2,z3,z4] at g5;rw[z1,z2] at g3;rw[z3] at g4;rw[z1] at g2;rw[z4];exact⟨⟨_,g5,rfl⟩,h _ ⟨g5,g3,⟨_,_,g4⟩,⟨_,g1,rfl,rfl⟩,⟨_,g2,rfl,rfl⟩⟩ λc o x=>Qd _ (Qd _ (Qd _ (Qd _ (Qd _ x))))⟩
end
end Rz
namespace L2
section
variable{X:Cx}{pins:List (Addr×Obj)}{σ:St}{H:Hp}{s:Shared}{h':JM}
theorem Inv.turnedNew{t':Nat}{ch:List Addr}{a:Addr}{o:HO}(I:Inv X pins σ H s)(hch:∀b∈ch,FpOk X pins H b)(k:∀b u,b∉ch->s.heap.get? b=some u->h'.get? b=some u)(hp:s.heap.objs.size<=a)
  (new:ObjOk X.prog X.w (upd H a o) h' a o):Inv X pins σ (upd H a o) { s with heap:=h',toks:=t' }:=by
 have hn:H a=none:=I.hok.fresh hp;have nch:∀b u,H b=some u->b∉ch:=λb u e z=>by rw[(hch b z).1] at e;cases e
 refine I.step (g':=s.gens) (d':=s.drawn) (ch:=ch) (λb hb=>?_) (λb u _ _ hc e _=>k b u hc e) (λb u _ _ hc e _=>⟨u.slots,k b u hc e⟩) (λb u hc e n=>?_) (λb u hc e=>⟨u,k b u hc e⟩)
  (λb xs e=>by rw[Jb (JK e hn)];exact e) (λb u v e=>by rw[Jb (JK e hn)];exact e) (λb ps e=>⟨#[],by rw[Jb (JK e hn),e];simp⟩) (λm hm=>?_) (λb u e=>?_) I.bare
 ·obtain⟨f0,f1,f2,f3,f4,f5⟩:=hch b hb;exact⟨f3,f1,f4,f5⟩
 ·rw[Jb (Qs (Qt (Qi e) hp))];exact n
 ·obtain⟨u,es,ep,ho,r⟩:=hm;exact⟨u,es,ep,k _ u (λz=>(hch _ z).2.1 rfl) ho,r⟩
 ·by_cases hb:b=a
  ·subst hb;rw[Jc] at e;cases e;exact new
  ·rw[Jb hb] at e;refine(I.hok b u e).stay (λc v hc q=>k c v ?_ q) (λc q=>by rw[Jb (JK q hn)];exact q) (λc xs q=>by rw[Jb (JK q hn)];exact q) λc z u q=>by rw[Jb (JK q hn)];exact q
   rcases hc with z | z
   ·rw[z];exact nch b u e
   ·exact nch c _ z
theorem Inv.turnedAll{t':Nat}{ch:List Addr}(I:Inv X pins σ H s)(hch:∀b∈ch,FpOk X pins H b)(k:∀b u,b∉ch->s.heap.get? b=some u->h'.get? b=some u):Inv X pins σ H { s with heap:=h',toks:=t' }:=by
 have nch:∀b u,H b=some u->b∉ch:=λb u e z=>by rw[(hch b z).1] at e;cases e
 refine I.step (g':=s.gens) (d':=s.drawn) (ch:=ch) (λb hb=>?_) (λb u _ _ hc e _=>k b u hc e) (λb u _ _ hc e _=>⟨u.slots,k b u hc e⟩) (λb u hc e n=>n) (λb u hc e=>⟨u,k b u hc e⟩)
  (λb xs e=>e) (λb u v e=>e) (λb ps e=>⟨#[],by rw[e];simp⟩) (λm hm=>?_) (λb u e=>?_) I.bare
 ·obtain⟨f0,f1,f2,f3,f4,f5⟩:=hch b hb;exact⟨f3,f1,f4,f5⟩
 ·obtain⟨u,es,ep,ho,r⟩:=hm;exact⟨u,es,ep,k _ u (λz=>(hch _ z).2.1 rfl) ho,r⟩
 ·refine(I.hok b u e).stay (λc v hc q=>k c v ?_ q) (λc q=>q) λc xs q=>q
  rcases hc with z | z
  ·rw[z];exact nch b u e
  ·exact nch c _ z
end
def Itz(t1 t2:Addr):It:=
 ⟨λi H=>∃xs ys x y,H t1=some (.tup xs)/\H t2=some (.tup ys)/\xs[i]? = some x/\ys[i]? = some y,
  λi H v H'=>∃p x y,H p=none/\(∀xs,H t1=some (.tup xs)->xs[i]? = some x)/\(∀ys,H t2=some (.tup ys)->ys[i]? = some y)/\v=.ref p/\H'=upd H p (.tup [x,y]),
  λi H=>∃xs ys,H t1=some (.tup xs)/\H t2=some (.tup ys)/\(xs.length<=i∨ys.length<=i)⟩
theorem Qlz{P:QD}{w:Je}{K:PySem.W.Frag}{elts:List QL}{x1}{tpos:Pos}{z TI TO i1 i2 t1 t2:Addr}(D:Rz.Apart z TI TO i1 i2 t1 t2) :
  Turn P w K (.Tuple elts x1 tpos) (Itz t1 t2) [z,TI,TO,i1,i2] z (λi h=>Rz.Qlb h z TI TO i1 i2 t1 t2 .none i) where
 mem:=by simp
 obj:=λi h st b hb=>by
  obtain⟨a1,a2,⟨_,_,a3⟩,⟨o4,a4,_,d4⟩,⟨o5,a5,_,d5⟩⟩:=st;simp only[Qx,QZ,or_false] at hb;rcases hb with rfl | rfl | rfl | rfl | rfl
  ·exact⟨_,a1,λv q=>nomatch q⟩
  ·exact⟨_,a2,λv q=>nomatch q⟩
  ·exact⟨_,a3,λv q=>nomatch q⟩
  ·exact⟨_,a4,λv q=>by rw[d4] at q;cases q⟩
  ·exact⟨_,a5,λv q=>by rw[d5] at q;cases q⟩
 keep:=λi h h' st k=>by
  obtain⟨a1,a2,⟨a,b,a3⟩,a4,a5⟩:=st;exact⟨k z (by simp) _ a1,k TI (by simp) _ a2,⟨a,b,k TO (by simp) _ a3⟩,a4.at λo e=>k i1 (by simp) o e,a5.at λo e=>k i2 (by simp) o e⟩
 item:=by
  intro X hP hw hK hc i pins s σ H E I hf st hg;subst hP hw hK;obtain⟨xs,ys,x,y,h1,h2,hx,hy⟩:=hg;obtain⟨its1,r1,p1,_⟩:=I.tuple (SqT.of h1);obtain⟨its2,r2,p2,_⟩:=I.tuple (SqT.of h2);obtain⟨u1,hu1,ru1⟩:=r1.get hx;obtain⟨u2,hu2,ru2⟩:=r2.get hy;refine Rz.QjZ D st (show s.heap.IsTuple t1 its1.toArray from p1) (show s.heap.IsTuple t2 its2.toArray from p2) (by simpa using hu1) (by simpa using hu2) λh' st' tp kp=>?_
  have hlt:∀b∈[z,TI,TO,i1,i2],b≠s.heap.objs.size:=λb hb=>by
   obtain⟨a1,a2,⟨_,_,a3⟩,⟨o4,a4,_,d4⟩,⟨o5,a5,_,d5⟩⟩:=st;simp only[Qx,QZ,or_false] at hb;rcases hb with rfl | rfl | rfl | rfl | rfl
   ·exact Qs (Qi a1)
   ·exact Qs (Qi a2)
   ·exact Qs (Qi a3)
   ·exact Qs (Qi a4)
   ·exact Qs (Qi a5)
  have fr:H s.heap.objs.size=none:=I.hok.fresh (Ql _);refine⟨_,rfl,Qiy st'.zp λh2' z2 s2=>?_⟩;have I1:Inv X pins σ (upd H s.heap.objs.size (.tup [x,y])) { s with heap:=h2',toks:=s.toks }:=by
   refine I.turnedNew (ch:=[z,TI,TO,i1,i2]) hf (λb u hb e=>?_) (Ql _) ⟨by show 2<=sizeLine;decide,[u1,u2],.cons ru1 (.cons ru2 .nil),?_⟩
   ·simp only[Qx,QZ,or_false,not_or] at hb;exact s2.extBut _ _ hb.1 (kp b u hb.1 hb.2.2.1 hb.2.2.2.1 hb.2.2.2.2 e)
   ·exact⟨_,s2.extBut _ _ (hlt z (by simp)).symm tp,rfl,rfl,0,rfl⟩
  refine⟨.ref s.heap.objs.size,_,I1,rfl,⟨_,x,y,fr,λxs' e=>?_,λys' e=>?_,rfl,rfl⟩,?_,λb hb=>?_⟩
  ·rw[h1] at e;cases e;exact hx
  ·rw[h2] at e;cases e;exact hy
  ·obtain⟨a1,a2,⟨a,b,a3⟩,a4,a5⟩:=st';exact⟨z2,s2.extBut _ _ D.a1 a2,⟨a,b,s2.extBut _ _ D.a2 a3⟩,a4.extBut s2.extBut D.a3,a5.extBut s2.extBut D.a4⟩
  ·rw[Jb (hlt b hb)];exact(hf b hb).1
 done:=by
  intro X hP hw hK hc i pins s σ H E I hf st hg;subst hP hw hK;obtain⟨xs,ys,h1,h2,he⟩:=hg;obtain⟨its1,r1,p1,_⟩:=I.tuple (SqT.of h1);obtain⟨its2,r2,p2,_⟩:=I.tuple (SqT.of h2);have l1:=r1.length;have l2:=r2.length;refine Rz.QmO (I.ok.hd hc) D st (show s.heap.IsTuple t1 its1.toArray from p1) (show s.heap.IsTuple t2 its2.toArray from p2) ?_ λh' kp=>⟨rfl,I.turnedAll (t':=s.toks) (ch:=[z,TI,TO,i1,i2]) hf λb u hb e=>?_⟩
  ·rcases he with q | q
   ·exact .inl (by simp;omega)
   ·exact .inr (by simp;omega)
  ·simp only[Qx,QZ,or_false,not_or] at hb;exact kp b u hb.1 hb.2.2.1 hb.2.2.2.1 hb.2.2.2.2 e
 self:=λ_ _ _ _ _ st h=>QbD st.zp h
section
variable{X:Cx}
theorem apart_new(n t1 t2:Nat)(h1:t1<n)(h2:t2<n):Rz.Apart (n+4) (n+2) (n+3) n (n+1) t1 t2 where
 a1:=by show ¬(n+2=n+4);omega
 a2:=by show ¬(n+3=n+4);omega
 a3:=by show ¬(n=n+4);omega
 a4:=by show ¬(n+1=n+4);omega
 a5:=by show ¬(n+2=n+3);omega
 a6:=by show ¬(n+2=n);omega
 a7:=by show ¬(n+2=n+1);omega
 a8:=by show ¬(n+3=n);omega
 a9:=by show ¬(n+3=n+1);omega
 b1:=by show ¬(n=n+1);omega
 b2:=⟨by show ¬(t1=n+4);omega,by show ¬(t1=n+3);omega,by show ¬(t1=n);omega,by show ¬(t1=n+1);omega⟩
 b3:=⟨by show ¬(t2=n+4);omega,by show ¬(t2=n+3);omega,by show ¬(t2=n);omega,by show ¬(t2=n+1);omega⟩
def Qxj(ta:TA):TI:=λσ H R=>ta σ H λvs H1=>∃t1 t2 xs ys,vs=[.ref t1,.ref t2]/\H1 t1=some (.tup xs)/\H1 t2=some (.tup ys)/\R (Itz t1 t2) H1
theorem Qk2:bootBuiltins "zip" = some (.type "zip"):=by decide +kernel
theorem QsF{a b:QL}{elts:List QL}{x1}{tpos:Pos}{ta:TA}{p pos:Pos}(hg:Gl X "zip")(hm:X.mg "zip" = none)(ha:PA X [a,b] ta)(hs:starEach [a,b] X.env=[(false,eval a X.env),(false,eval b X.env)]:=by rfl)(hs2:starEach [b] X.env=[(false,eval b X.env)]:=by rfl) :
  PI X (.Tuple elts x1 tpos) (.Call (.Name "zip" p) [a,b] [] pos) (Qxj ta):=by
 intro pins s σ H R I h;refine Call_ (Qbx I hg hm Qk2 (JL (thn (ha pos pins s σ H _ I h) λus s1 ⟨vs,H1,I1,r1,q1⟩=>?_) (by rw[hs,hs2]) (by rw[hs2];rfl)));obtain⟨t1,t2,xs,ys,e,h1,h2,q⟩:=q1;subst e;obtain⟨u,v,rfl,ru,rv⟩:=vals2 r1;cases(show u=JG t1 from ru);cases(show v=JG t2 from rv);obtain⟨its1,w1,p1,_⟩:=I1.tuple (SqT.of h1);obtain⟨its2,w2,p2,_⟩:=I1.tuple (SqT.of h2);have n1:t1<s1.heap.objs.size:=I1.hok.lt h1;have n2:t2<s1.heap.objs.size:=I1.hok.lt h2;refine Rz.Qnk (show s1.heap.IsTuple t1 its1.toArray from p1) (show s1.heap.IsTuple t2 its2.toArray from p2) λh' st kp=>?_
 refine QbD (s:={ s1 with heap:=h' }) st.zp ?_
 have D:=apart_new s1.heap.objs.size t1 t2 n1 n2;refine⟨s1.heap.objs.size+4,_,_,_,H1,rfl,I1.kept (t':=s1.toks) kp,Qlz D,st,λb hb=>?_,q⟩;have hb':s1.heap.objs.size<=b:=by
  simp only[Qx,QZ,or_false] at hb;rcases hb with rfl | rfl | rfl | rfl | rfl<;>omega
 exact I1.fpOk hb' (I1.hok.fresh hb')
end
end L2
namespace Rk
open L2
def Qwd:Option HO->Option (List V)
 |some (.tup xs)=>some xs
 |_=>none
def Qec(H:Hp):V->Option (List V)
 |.ref a=>Qwd (H a)
 |_=>none
theorem QgD(H:Hp)(a:Addr):Qec H (.ref a)=Qwd (H a):=rfl
def isT(H:Hp)(x:V):Bool:=(Qec H x).isSome
def Kn(p:Addr)(H:Hp):V->Prop
 |.non=>True
 |.bl _=>True
 |.int _=>True
 |.str _=>True
 |.ref a=>a≠p/\((∃xs,H a=some (.tup xs))∨(∃xs,H a=some (.lst xs))∨∃kvs,H a=some (.dK kvs))
 |_=>False
def KnD(p:Addr):Nat->Hp->V->Prop
 |0,H,x=>Kn p H x
 |n+1,H,x=>Kn p H x/\∀xs,Qec H x=some xs->∀y∈xs,KnD p n H y
def KX(p:Addr)(H H':Hp):Prop:=∀b o,b≠p->H b=some o->H' b=some o
theorem KX.of{p:Addr}{H H':Hp}(h:Same H H'):KX p H H':=λb o _ e=>h b o e
theorem KX.new{p q:Addr}{H:Hp}{o:HO}(h:H q=none):KX p H (L2.upd H q o):=KX.of (Jk h)
theorem KnD.kn{p:Addr}{H:Hp}{x:V}:∀{n:Nat},KnD p n H x->Kn p H x
 |0,h=>h
 |_+1,h=>h.1
theorem KnD.low{p:Addr}{H:Hp}:∀{n:Nat}{x:V},KnD p (n+1) H x->KnD p n H x
 |0,x,h=>h.1
 |n+1,x,h=>⟨h.1,λxs e y hy=>KnD.low (h.2 xs e y hy)⟩
theorem KnD.tup{p:Addr}{H:Hp}{n:Nat}{a:Addr}{xs:List V}(hp:a≠p)(e:H a=some (.tup xs))(h:∀y∈xs,KnD p n H y):KnD p (n+1) H (.ref a):=
 ⟨⟨hp,.inl ⟨xs,e⟩⟩,λys z y hy=>h y (by
  have z':some xs=some ys:=by rw[<- z,QgD,e];rfl
  cases z';exact hy)⟩
theorem KnD.int{p:Addr}{H:Hp}(i:Int):∀(n:Nat),KnD p n H (.int i)
 |0=>trivial
 |n+1=>⟨trivial,λ_ e=>nomatch e⟩
theorem Qe1{H:Hp}{a:Addr}{xs:List V}(e:H a=some (.tup xs)):Qec H (.ref a)=some xs:=by rw[QgD,e];rfl
def QnZ(H:Hp)(x:V):List Int:=((Qec H x).getD []).map λy=>match y with
 |.int i=>i
 |_=>0
def IntsT(H:Hp)(x:V)(ns:List Int):Prop:=∃a,x=.ref a/\H a=some (.tup (ns.map V.int))
theorem IntsT.eq{H:Hp}{x:V}{ns:List Int}(h:IntsT H x ns):QnZ H x=ns:=by
 obtain⟨a,rfl,e⟩:=h;unfold QnZ;rw[Qe1 e];show(ns.map V.int).map _=ns;rw[Jj];exact QeM _
theorem Qal:bootBuiltins "isinstance" = some (.builtin "isinstance"):=by decide +kernel
theorem Qob:bootBuiltins "int" = some (.type "int"):=by decide +kernel
theorem QrB:bootBuiltins "bool" = some (.type "bool"):=by decide +kernel
theorem QbA:bootBuiltins "tuple" = some (.type "tuple"):=by decide +kernel
theorem QrA:bootBuiltins "list" = some (.type "list"):=by decide +kernel
theorem Qfz:bootBuiltins "all" = some (.builtin "all"):=by decide +kernel
theorem YE:bootBuiltins "len" = some (.builtin "len"):=by decide +kernel
theorem Qoa:bootBuiltins "max" = some (.builtin "max"):=by decide +kernel
theorem Qk0:bootBuiltins "min" = some (.builtin "min"):=by decide +kernel
end Rk
namespace L2
theorem QcY{J:It}{body:V->Hp->(Hp->Prop)->Prop}{Qn:Hp->Prop}{H:Hp}(n:Nat)(Pv:Nat->Hp->Prop)(h0:Pv 0 H)
  (hs:∀i H2,i<n->Pv i H2->J.go i H2/\∀x H3,J.yld i H2 x H3->∀k:Hp->Prop,(∀H6,Pv (i+1) H6->k H6)->body x H3 k)(hd:∀H2,Pv n H2->J.stop n H2/\Qn H2):QiW J body Qn H:=by
 refine⟨λi m H=>m=n - i/\i<=n/\Pv i H,⟨n,by simp,Jx _,h0⟩,?_⟩;rintro i m H2 ⟨rfl,hi,p⟩;by_cases hlt:i<n
 ·obtain⟨go,st⟩:=hs i H2 hlt p;exact .inr ⟨go,λx H3 y=>st x H3 y _ λH6 p6=>⟨n - (i+1),by omega,rfl,hlt,p6⟩⟩
 ·have e:i=n:=by omega
  subst e;exact .inl (hd H2 p)
end L2
namespace Rk
open L2
def Qbp(K:PySem.W.Frag):Sp:=λvs H Q _=>∃a ns k,vs=[.ref a,.int k]/\SqL K H a ((ns:List Int).map V.int)/\ns.length<2^20/\0<=k/\∀c,Q (.int c) H
def Qsh:Sp:=λvs H Q _=>∃c,vs=[.int c]/\∀p n,H p=none->Q (.ref p) (upd H p (.lst [.int n]))
def Cs(p:Addr)(H:Hp):List V->List (Int×Int)->Prop:=ZQ λx ij=>∃d,d≠p/\x=.ref d/\H d=some (.tup [.int ij.1,.int ij.2])
theorem Cs.mem{p:Addr}{H:Hp}:∀{ps:List V}{L:List (Int×Int)},Cs p H ps L->∀x∈ps,∃ij∈L,∃d,d≠p/\x=.ref d/\H d=some (.tup [.int ij.1,.int ij.2])
 |_,_,.nil,x,h=>nomatch h
 |_,_,.cons r t,x,h=>by
  rcases Qx.mp h with e | e
  ·subst e;exact⟨_,JR,r⟩
  ·obtain⟨ij,m,q⟩:=Cs.mem t x e;exact⟨ij,Jp _ m,q⟩
def Quc(a b:Int×Int):Prop:=a.1<b.1∨(a.1=b.1/\a.2<b.2)
structure Good (h w:Int) (L:List (Int×Int)):Prop where
 asc:L.Pairwise Quc
 ins:∀x∈L,0<=x.1/\x.1<h/\0<=x.2/\x.2<w
 len:L.length<=36
theorem Qha(x:Int){m:Int}(h:0<m):0<=x % m/\x % m<m:=⟨Int.emod_nonneg _ (by omega),Int.emod_lt_of_pos _ h⟩
def JC:QL->Bool
 |.Starred _ _=>false
 |_=>true
theorem ZO{e:QL}{es:List QL}{env:Env}(h:JC e=true):starEach (e::es) env=(false,eval e env)::starEach es env:=by
 cases e<;>first | rfl | cases h
section
variable{X:Cx}
theorem Qcq{e:QL}{es:List QL}{te:TE}{t:TA}(ha:PE X e te)(hr:PA X es t)(hs:JC e=true:=by rfl):PA X (e::es) (QfW te t):=Ys ha hr (ZO hs)
end
def Sm(H:Hp)(x:V):Prop:=∀ps,Qec H x=some ps->ps.length<sizeLine
def Part(p:Addr)(H:Hp)(x:V):Prop:=KnD p 2 H x/\Sm H x
def Thing(p:Addr)(H:Hp)(x:V):Prop:=KnD p 3 H x/\Sm H x/\∀xs,Qec H x=some xs->∀y∈xs,Sm H y
theorem Qr7{H:Hp}{a:Addr}{xs ys:List V}(e:H a=some (.tup xs))(z:Qec H (.ref a)=some ys):ys=xs:=by
 rw[Qe1 e] at z;cases z;rfl
theorem Part.tup{p:Addr}{H:Hp}{a:Addr}{xs:List V}(hp:a≠p)(e:H a=some (.tup xs))(hl:xs.length<sizeLine)(h:∀y∈xs,KnD p 1 H y):Part p H (.ref a):=
 ⟨KnD.tup hp e h,λps z=>by rw[Qr7 e z];exact hl⟩
theorem Thing.part{p:Addr}{H:Hp}{x:V}(h:Thing p H x):Part p H x:=⟨h.1.low,h.2.1⟩
theorem QtH{P:V->Prop}:∀y∈([]:List V),P y:=λ_ h=>nomatch h
theorem Qkw{P:V->Prop}{a:V}{l:List V}(h:P a)(k:∀y∈l,P y):∀y∈a::l,P y:=λy hy=>by
 rcases Qx.mp hy with e | e
 ·subst e;exact h
 ·exact k y e
theorem Cs.kn{p:Addr}{H:Hp}{ps:List V}{L:List (Int×Int)}(h:Cs p H ps L):∀x∈ps,KnD p 1 H x:=λx hx=>by
 obtain⟨ij,_,d,n,rfl,e⟩:=h.mem x hx;exact KnD.tup n e (Qkw (KnD.int _ 0) (Qkw (KnD.int _ 0) QtH))
theorem Cs.part{p:Addr}{H:Hp}{c:Addr}{ps:List V}{L:List (Int×Int)}(n:c≠p)(e:H c=some (.tup ps))(hl:ps.length<sizeLine)(h:Cs p H ps L):Part p H (.ref c):=Part.tup n e hl h.kn
theorem Qa7{n:Nat}(h:n<=1000):n<sizeLine:=ZU h (by decide)
def Fine(p:Addr):Nat->Hp->V->Prop
 |0,H,x=>Kn p H x/\Sm H x
 |n+1,H,x=>Kn p H x/\Sm H x/\∀xs,Qec H x=some xs->∀y∈xs,Fine p n H y
theorem Fine.kn{p:Addr}{H:Hp}{x:V}:∀{n:Nat},Fine p n H x->Kn p H x
 |0,h=>h.1
 |_+1,h=>h.1
theorem Fine.sm{p:Addr}{H:Hp}{x:V}:∀{n:Nat},Fine p n H x->Sm H x
 |0,h=>h.2
 |_+1,h=>h.2.1
theorem Fine.knd{p:Addr}{H:Hp}:∀{n:Nat}{x:V},Fine p n H x->KnD p n H x
 |0,_,h=>h.1
 |_+1,_,h=>⟨h.1,λxs e y hy=>(h.2.2 xs e y hy).knd⟩
theorem Fine.thing{p:Addr}{H:Hp}{x:V}(h:∀n,Fine p n H x):Thing p H x:=⟨(h 3).knd,(h 0).2,λxs e y hy=>((h 1).2.2 xs e y hy).2⟩
section
variable{X:Cx}
theorem Qga{e:List QL}{t t':TA}(h:PA X e t)(k:∀σ H Q,t' σ H Q->t σ H Q):PA X e t':=λpos pins s σ H Q I q=>h pos pins s σ H Q I (k σ H Q q)
end
def Qu8(t:TA):TE:=λσ H Q=>t σ H λxs H1=>xs.length<=1000/\∀a H2,Same H1 H2->H1 a=none->H2 a=some (.tup xs)->Q (.ref a) H2
def Qvd(t:TA):TE:=λσ H Q=>t σ H λxs H1=>xs.length<=1000/\∀a H2,Same H1 H2->H1 a=none->H2 a=some (.lst xs)->Q (.ref a) H2
section
variable{X:Cx}
theorem Qpb{es:List QL}{t:TA}{x1}{pos:Pos}(h:PA X es t):PE X (.Tuple es x1 pos) (Qu8 t):=by
 intro pins s σ H Q I hq;refine wpAny_Tuple_spliced (thn (h pos pins s σ H _ I hq) λus s1 ⟨xs,H1,I1,r,z,q⟩=>⟨by rw[<- r.length];exact Ze (Qa7 z),?_⟩);have hf:H1 s1.heap.objs.size=none:=I1.hok.fresh (Ql _);refine⟨.ref s1.heap.objs.size,upd H1 s1.heap.objs.size (.tup xs),I1.laid (t':=s1.toks) (λb u e=>Qd _ e) (Ql _) ?_,rfl,q _ _ (Jk hf) hf Jc⟩;exact⟨Ze (Qa7 z),us,r,⟨_,Qp _ rfl,rfl,rfl,_,rfl⟩⟩
theorem Qag{es:List QL}{t:TA}{pos:Pos}(h:PA X es t):PE X (.List es pos) (Qvd t):=by
 intro pins s σ H Q I hq;refine Qud (thn (h pos pins s σ H _ I hq) λus s1 ⟨xs,H1,I1,r,z,q⟩=>⟨by rw[<- r.length];exact Ze (Qa7 z),?_⟩);have hf:H1 s1.heap.objs.size=none:=I1.hok.fresh (Ql _);refine⟨.ref s1.heap.objs.size,upd H1 s1.heap.objs.size (.lst xs),I1.laid (t':=s1.toks) (λb u e=>Qd _ e) (Ql _) ?_,rfl,q _ _ (Jk hf) hf Jc⟩;exact⟨Ze (Qa7 z),us,0,r,Qp _ rfl⟩
def Qvq:R2:=λx y H Q=>∃l b xs zs,x=.ref l/\y=.ref b/\H l=some (.lst xs)/\H b=some (.lst zs)/\xs.length+zs.length<=1000/\∀a H2,Same H H2->H a=none->H2 a=some (.lst (xs++zs))->Q (.ref a) H2
theorem QcV:OpR X (binaryOp .Add) Qvq:=λpins s σ H x y v u Q I rx ry ⟨l,b,xs,zs,e1,e2,h1,h2,hl,k⟩=>
 QnU pins s σ H x y v u Q I rx ry ⟨l,b,xs,zs,e1,e2,h1,h2,Ze (Qa7 hl),λa ha=>k a _ (Jk ha) ha Jc⟩
end
def FineA(p:Addr)(H:Hp)(x:V):Prop:=∀n,Fine p n H x
theorem FineA.thing{p:Addr}{H:Hp}{x:V}(h:FineA p H x):Thing p H x:=Fine.thing h
theorem FineA.part{p:Addr}{H:Hp}{x:V}(h:FineA p H x):Part p H x:=(Fine.thing h).part
end Rk
namespace Rx
open PySem.Calls L2 PySem.W Builtin Builtin.ObjectAttr Builtin.Getset_descriptor
def ExAt(a C:Addr)(h:JM):Prop:=∃o vs,h.get? a=some o/\o.cls=.ref C/\o.data=.fields vs
theorem ExAt.ty{M:QiG}{h:JM}{a C:Addr}(x:ExAt a C h):Looks M h (typeOf (.ref a)) (.ref C):=by
 obtain⟨o,vs,e,c,_⟩:=x;exact c ▸ (Looks.ld e).andThen .now
structure ExC (K:PySem.W.Frag) (C:Addr):Prop where
 ga:findIn K (.ref C) "__getattribute__" = some (some (.builtin "BaseException.__getattribute__"))
 hk:findIn K (.ref C) "__getattr__" = some none
 bas:mroIn K C (.type "BaseException")=some true
 cls:(clsIn K C).isSome=true
 att:findIn K (.ref C) "__class__" = some (some (.builtin "object.__class__"))
 spc:specialIn K (.builtin "object.__class__") "__get__" = some (some (.builtin "getset_descriptor.__get__"))
 tks:takesIn K (.builtin "object.__class__")=some true
 mro:mroIn K C (.type "object")=some true
section
variable{prog:QD}{w:Je}{A:Q5}{E:Value->Shared->Prop}{s:Shared}{K:PySem.W.Frag}{a C:Addr}
theorem Qrj{M:QiG}{h:JM}(X:K.In h)(c:ExC K C):Looks M h (find (.ref a) (.ref C) "__class__") (.bind (.builtin "getset_descriptor.__get__") (.builtin "object.__class__")):=by
 have l1:=Qog (M:=M) X c.att;have l2:=looks_specialIn (M:=M) X c.spc;have l3:=looks_takesIn (M:=M) X c.tks;have l4:Looks M h (dataDescriptor? (some (.builtin "object.__class__")) (some (.builtin "getset_descriptor.__get__"))) (some (.builtin "getset_descriptor.__get__",.builtin "object.__class__")):=l3.andThen .now;exact l1.andThen (l2.andThen (l4.andThen (Looks.tag .now)))
theorem QtK{R:Qhp->Shared->Prop}{tp:Value}(X:K.In s.heap)(I:ExAt a C s.heap)(c:ExC K C)(h:R (.ok (.ret (.ref C))) s) :
  codeAny (model prog w) A (.call (.builtin "getset_descriptor.__get__") ⟨[.builtin "object.__class__",.ref a,tp],[]⟩) R s:=by
 obtain⟨h0,g0,d0,t0,o0⟩:=s;have la:=I.ty (M:=model prog w);have lb:=looks_mroIn (M:=model prog w) X c.mro;refine QcF KF.slot_gs.plain KF.entry_gs (KF.slot_gs.check _ _ _ _ _ _ _ _ KF.type_class (KF.args_gs _ _ _) ?_);unfold Qbl.«getset_descriptor.__get__»;unfold descrGet;rw[dga_obj];refine wpAny_bind (Qj ?_);unfold descrGetter;unfold descrCheckInstance;unfold descrNameAndClass;unfold isInstance;simp only[KF.owner_class]
 repeat lk
 refine⟨Code.quiet_builtin _ (by decide +kernel),Qav KF.entry_class ?_⟩;unfold Qbl.«object.__class__»;unfold shownTypeOf
 repeat lk
 exact h
theorem Qnf{M:QiG}{nameV:Value}{Q:Unit->Shared->Prop}(X:K.In s.heap)(I:ExAt a C s.heap)(c:ExC K C)(hq:Q () s):wpAny M A (checkBuiltinCall "BaseException.__getattribute__" ⟨[.ref a,nameV],[]⟩) Q E s:=by
 have hk:builtinKind "BaseException.__getattribute__" = some .slot:=by decide +kernel
 have hsplit:splitId "BaseException.__getattribute__" = some ("BaseException", "__getattribute__"):=by decide +kernel
 have ha:=F.args_bexc_ga (.ref a) nameV;have la:=I.ty (M:=M);have lb:=looks_mroIn (M:=M) X c.bas;have li:Looks M s.heap (isInstance (.ref a) (.type "BaseException")) true:=la.andThen lb;simp only[checkBuiltinCall,hk,hsplit];refine wpAny_bind (li.at ?_)
 repeat (first | exact hq | wp_step)
theorem Qne{Q:Option Value->Shared->Prop}(X:K.In s.heap)(I:ExAt a C s.heap)(c:ExC K C)(h:Q (some (.ref C)) { s with toks:=s.toks+1 }):wpAny (model prog w) A (getAttr? (.ref a) "__class__") Q E s:=by
 obtain⟨h0,g0,d0,t0,o0⟩:=s;have la:=I.ty (M:=model prog w);have lb:=Qog (M:=model prog w) X c.ga;have lc:=Qog (M:=model prog w) X c.hk;have ld:=Qrj (M:=model prog w) (a:=a) X c;have f3:=Qnx.ga.bind (.ref a);have hx2:(onTheHeap (JG C)&&Qcl "BaseException.__getattribute__" == Qcl "object.__getattribute__")=false:=by
  have e:(Qcl "BaseException.__getattribute__" == Qcl "object.__getattribute__")=false:=by decide +kernel
  rw[e];rfl
 unfold getAttr?;unfold getAttrBy?;unfold getAttrBy;refine wpAny_bind (wpAny_mkText (wpAny_bind (QdX (JN (wpAny_bind (la.at (wpAny_bind (lb.at ?_))))))));simp only[hx2,Qlt,if_false];unfold getAttrByItsOwn;refine wpAny_bind (m:=hookBefore (.ref C)) ?_
 show wpAny _ _ (typeLookup (.ref C) "__getattr__") _ _ _;refine lc.at ?_
 refine wpAny_bind (QdX (JN ?_));show wpAny _ _ (boundAndCalled _ _ _) _ _ _;unfold boundAndCalled;rw[f3];refine wpAny_bind (Qj ?_);refine Qa3 (QcF Qnx.ga.plain F.entry_bexc_ga (Qnf X I c ?_));unfold Qbl.«object.__getattribute__»;refine wpAny_bind (Qj (wpAny_bind (Qj (wpAny_bind (la.at (wpAny_bind (ld.at ?_)))))));show wpAny _ _ (bindTo (.builtin "getset_descriptor.__get__") (.builtin "object.__class__") (.ref a) (.ref C)) _ _ _;unfold bindTo;refine wpAny_bind (JN (Qa3 (QtK (s:=⟨h0,g0,d0,t0+1,o0⟩) X I c ?_)));exact Qj (handed_on rfl (Qj h))
theorem Qp8(c:ExC K C):KitX K (.ref a) (.ref C) (ExAt a C) where
 ty:=λ_ _ _ I=>I.ty
 it:=λ_ _ X _=>by
  have q:=c.cls;unfold clsIn at q;split at q
  ·rename_i ho
   intro A' Q' E' s' k z;unfold isType loadHead;exact wpAny_bind (wpAny_loadPart (k _ _ (X _ _ ho)) (Qj z))
  ·cases q
 ne:=λh tp dd its n sl X htp=>by
  have q:=c.cls;refine Bool.eq_false_iff.mpr λz=>?_
  cases Value.ref.inj (beq_iff_eq.mp z);unfold clsIn at q;split at q
  ·rename_i ho
   cases(X _ _ ho).symm.trans htp
  ·cases q
 ca:=λX I k=>Qne X I c k
end
end Rx
namespace Rx
open PySem.Calls L2
abbrev mroV:List Value:=[.type "ValueError",.type "Exception",.type "BaseException",.type "object"]
def Qt9(h:JM)(C:Addr):Prop:=∃bm N nm q bs hdct sn sub ab col dd k0 k1 k2 k3 k5 mN,
 h.get? C=some (excClassObj nm q C N bs bm hdct sn sub ab col dd k0 k1 k2 k3 k5 "ValueError.__new__")/\h.Ns N mN/\mN "__init__" = none/\OwnTail h mroV bm
theorem Qjk{K:PySem.W.Frag}{h:JM}{C:Addr}(X:K.In h)(q:PySem.W.excIn K C mroV "ValueError.__new__" = true):Qt9 h C:=by
 unfold PySem.W.excIn at q;split at q;next dd cd sl ho=>
  split at q;next C' bm k0 k1 k2 k3 n k5 hm hs=>
   obtain⟨q,e6⟩:=QC.mp q;obtain⟨q,e5⟩:=QC.mp q;obtain⟨q,e4⟩:=QC.mp q;obtain⟨q,e3⟩:=QC.mp q;obtain⟨e1,e2⟩:=QC.mp q;cases beq_iff_eq.mp e1;cases beq_iff_eq.mp e2;rcases cd with⟨c1,c2,c3,c4,c5,c6,c7,c8,c9,ca,cb⟩
   rcases sl with⟨sl⟩
   have e7:cb=false:=by
    cases cb with
    |false=>rfl
    |true=>cases e3
   have hm:c3=.ref C::bm:=hm;have hs:sl=[k0,k1,k2,k3,some (.builtin "ValueError.__new__"),k5]:=hs;subst hm hs e7;have hn:h.Ns c4 (h.nsMap c4):=.of_isNs (PySem.W.isNs_of_in X e5);exact⟨_,_,_,_,_,_,_,_,_,_,_,_,_,_,_,_,_,X _ _ ho,hn,PySem.W.nsMap_none_of_in X e5 (beq_iff_eq.mp e6),PySem.W.tail_of_in X e4⟩
  next=>cases q
 next=>cases q
theorem obj_there{P:QD}{w:Je}{H:Hp}{h:JM}{a:Addr}{o:HO}(x:ObjOk P w H h a o):∃u,h.get? a=some u:=by
 cases o with
 |lst xs=>obtain⟨_,_,_,_,e⟩:=x;exact⟨_,e⟩
 |tup xs=>obtain⟨_,_,_,p⟩:=x;obtain⟨_,e,_⟩:=p;exact⟨_,e⟩
 |dK kvs=>obtain⟨_,_,_,_,o,_,_,e,_⟩:=x;exact⟨_,e⟩
 |dT kvs=>obtain⟨_,_,_,_,o,_,_,e,_⟩:=x;exact⟨_,e⟩
 |set S n=>obtain⟨o,_,_,_,e,_⟩:=x;exact⟨_,e⟩
 |ins C dx fs=>obtain⟨_,_,_,e,_⟩:=x;exact⟨_,e⟩
 |own y=>exact x
 |xd fs=>obtain⟨_,⟨_,_,_,e,_⟩,_⟩:=x;exact⟨_,e⟩
 |rng lo hi=>obtain⟨_,_,_,e⟩:=x;exact⟨_,e⟩
 |frz ob u=>exact⟨_,x.1⟩
 |tbl ps=>obtain⟨_,e,_⟩:=x;exact⟨_,e⟩
 |met f y=>exact⟨_,x⟩
 |ext φ=>exact x.2.1
def Fly(P:QD)(w:Je)(outer:List Env)(H:Hp)(s:Shared)(C:Addr)(H':Hp)(e:Value)(s':Shared):Prop:=
 ∃(a t:Addr)(B:JM),e=.ref a/\s'.os=s.os/\Qcn s'.gens/\QuZ B outer a (.ref C) (.ref t) s'.heap/\s.heap.get? a=none/\H' a=none /\
  ∀h2:JM,B.StaysIn h2->s'.heap.UpToSlots h2->Un (frs outer) [] H H' s.heap h2/\HOk P w H' h2
def CXE(P:QD)(w:Je):CXT:=λouter H s E e s'=>∃C H',Fly P w outer H s C H' e s'/\E (.ref C) none H'
def QnA(E:XK)(C:Addr)(te:TE):TS:=λ_ σ H=>te σ H λ_ H1=>E (.ref C) none H1
section
variable{X:Cx}{E:XK}{C:Addr}{x:Str}{e0:QL}{te:TE}{np cpos pos:Pos}
theorem QtI{pins:List (Addr×Obj)}{σ:L2.St}{H:Hp}{s:Shared}{h1:JM}{a:Addr}{vs:List Value}{M:QiG}{EE:Value->Shared->Prop}(I:Inv X pins σ H s)(hstk:X.stack=X.env::X.outer)(hfr:X.env.frame=some X.env.locals)(hex:X.ex=[])
  (hx:Heap.MadeExcOf s.heap h1 a (.ref C) vs) :
  wpAny M X.A (leaving X.env (.ref a)) (λ_ s2=>Fly X.prog X.w X.outer X.H₀ X.s₀ C H (.ref a) s2) EE { s with heap:=h1 }:=by
 have fr:X.A.frames=some (X.env::X.outer):=by rw[<- hstk];exact I.ok.frames
 have ff:s.heap.FunFrames X.base (X.env::X.outer):=by rw[<- hstk];exact I.stack
 have hin:∀env∈X.env::X.outer,∀b,env.frame=some b->b∈frs (X.env::X.outer):=λenv he b hb=>Qcs.mpr ⟨env,he,hb⟩
 refine wpAny_leaves_madeW (base:=PySem.W.hideAll s.heap (frs (X.env::X.outer))) (h:=s.heap) (L:=X.env.locals) fr hfr (λb o q=>PySem.W.of_hideAll _ q) (PySem.W.funFrames_hide ff hin) hx λh' t x1 x2 x3 x4=>?_
 have nex:∀b:Addr,b∉X.ex:=λb=>by rw[hex];simp
 have free0:X.s₀.heap.get? a=none:=by
  cases q:X.s₀.heap.get? a with
  |none=>rfl
  |some o=>
   obtain⟨o',e⟩:=I.base.there a o q (nex a);rw[hx.new] at e;cases e
 have freeH:H a=none:=by
  cases q:H a with
  |none=>rfl
  |some o=>
   obtain⟨u,e⟩:=obj_there (I.hok a o q);rw[hx.new] at e;cases e
 have stf:∀b∈frs (X.env::X.outer),H b=none:=λb hb=>I.stkFree b (by rw[hstk];exact hb)
 refine⟨a,t,_,rfl,I.os,I.bare,x1,free0,freeH,λh2 st up=>?_⟩;have up2:s.heap.UpToSlots h2:=((Qum hx.keeps).trans x4).trans up;have kp:∀b o,s.heap.get? b=some o->b∉frs (X.env::X.outer)->h2.get? b=some o:=λb o e n=>st b o (PySem.W.hideAll_get _ e n)
 have own:∀b o,X.s₀.heap.get? b=some o->b≠X.env.locals:=λb o e z=>by
  have h1:=Qi e;have h2:=I.ok.above;rw[z] at h1;exact absurd (Qt h1 h2) (ZL _)
 have nfr:∀b o,X.s₀.heap.get? b=some o->b∉frs X.outer->b∉frs (X.env::X.outer):=λb o e n hb=>by
  unfold frs at hb n;rw[Y0,hfr] at hb;rcases Qx.mp hb with z | z
  ·exact own b o e z
  ·exact n z
 have hdat:∀b∈frs X.outer,∀o,s.heap.get? b=some o->∀vs,o.data≠.fields vs:=λb hb o e=>by
  obtain⟨_,o',ho',hd⟩:=I.funs.mem hb;rw[e] at ho';cases ho';exact hd
 refine⟨⟨λb o e n hb _=>kp b o (I.base.keep b o e n hb (nex b)) (nfr b o e hb),λb o e n hb _=>?_,λb o e n _=>I.base.free b o e n (nex b),λb o e _=>?_,I.base.tups,I.base.frzs,I.base.tbls⟩,λb o e=>?_⟩
 ·obtain⟨sl,e1⟩:=I.base.slot b o e n hb (nex b);obtain⟨sl2,e2⟩:=up2 b _ e1 (hdat b hb _ e1);exact⟨sl2,e2⟩
 ·obtain⟨o',e1⟩:=I.base.there b o e (nex b);by_cases hb:b∈frs X.outer
  ·obtain⟨sl2,e2⟩:=up2 b _ e1 (hdat b hb _ e1);exact⟨_,e2⟩
  ·exact⟨o',kp b o' e1 (nfr b o e hb)⟩
 ·refine(I.hok b o e).stay (λc u hc q=>kp c u q λhm=>?_) (λ_ q=>q) λ_ _ q=>q
  have z:=stf c hm;rcases hc with r | r
  ·rw[r,e] at z;cases z
  ·rw[r] at z;cases z
theorem Ql0(hxe:∀e s1,wpAny (model X.prog X.w) X.A (leaving X.env e) (λ_ s2=>CXE X.prog X.w X.outer X.H₀ X.s₀ E e s2) (λe' s2=>CXE X.prog X.w X.outer X.H₀ X.s₀ E e' s2) s1->X.xe e s1)
  (hstk:X.stack=X.env::X.outer)(hfr:X.env.frame=some X.env.locals)(hex:X.ex=[])(hc:X.calm=true)(hg:Gl X x)(hm:X.mg x=some (.ref C))(q:PySem.W.excIn X.K C mroV "ValueError.__new__" = true)
  (ha:PE X e0 te)(he:starEach [e0] X.env=[(false,eval e0 X.env)]:=by rfl)(hd:(x == ("__debug__" : Str))=false:=by decide) :
  PS X (.Raise (some (.Call (.Name x np) [e0] [] cpos)) none pos) (QnA E C te):=by
 intro pins s σ H D I h;obtain⟨bm,N,nm,qn,bs,hdct,sn,sub,ab,col,dd,k0,k1,k2,k3,k5,mN,hC,hN,hni,T⟩:=Qjk I.ok.mod.kin q;refine wpAny_Raise_call_subT (k5:=k5) (k3:=k3) (k2:=k2) (k1:=k1) (k0:=k0) (dd:=dd) (col:=col) (ab:=ab) (sub:=sub) (sn:=sn) (hdct:=hdct) (bs:=bs) (N:=N) (q:=qn) (nm:=nm) (C:=C) PySem.F.excBase_ValueError (T.hasType PySem.F.excBase_ValueError.hasBase) (I.ok.hd hc) (by rw[he];rfl) hni (Qb2 I hg hm ?_ hd);refine⟨rfl,?_⟩;rw[he];refine Qir (Qlg (thn (ha pins s σ H _ I h) λu s1 ⟨v,H1,I1,r1,q1⟩=>Qls ⟨rfl,by show 1<=sizeLine;decide,I1.bk _ _ hC,hN.keeps I1.bk,T.keeps I1.bk,λh' e hx=>?_⟩));exact hxe _ _ (thn (QtI I1 hstk hfr hex hx) λ_ s2 z=>⟨C,H1,z,q1⟩)
end
def exO(a C:Addr):HO:=.ext (ExAt a C)
structure ByC (K:PySem.W.Frag) (C R:Addr):Prop where
 ty:PySem.W.typeIn K (.ref R)=some (.type "type")
 cls:(PySem.W.clsIn K R).isSome=true
 base:PySem.W.mroIn K R (.type "BaseException")=some true
 sub:PySem.W.mroIn K C (.ref R)=some true
theorem QhJ{K:PySem.W.Frag}{M:QiG}{h:JM}{R:Addr}(X:K.In h)(c:(PySem.W.clsIn K R).isSome=true):PySem.W.Looks M h (isType (.ref R)) true:=by
 unfold PySem.W.clsIn at c;split at c
 ·rename_i ho
  intro A' Q' E' s' k z;unfold isType loadHead;exact wpAny_bind (wpAny_loadPart (k _ _ (X _ _ ho)) (Qj z))
 ·cases c
theorem QhU{M:QiG}{A:Q5}{E:Value->Shared->Prop}{K:PySem.W.Frag}{a C R:Addr}{s:Shared}{Q:Bool->Shared->Prop}(X:K.In s.heap)(I:ExAt a C s.heap)(c:ByC K C R)(h:Q true s) :
  wpAny M A (excMatches (.ref a) (.ref R)) Q E s:=by
 obtain⟨h0,g0,d0,t0,o0⟩:=s;have l1:=PySem.W.looks_typeIn (M:=M) X c.ty;have l2:=QhJ (M:=M) X c.cls;have l3:=PySem.W.looks_mroIn (M:=M) X c.base;have l4:=PySem.W.looks_mroIn (M:=M) X c.sub;have l5:=I.ty (M:=M);have l6:PySem.W.Looks M h0 (isSubtype (.type "type") (.type "tuple")) false:=PySem.W.Looks.of_pure tc_notTuple;unfold excMatches isExcClass isInstance
 repeat (first | lk | exact h)
abbrev mkd (X:Cx) (e:Value):Cx:={ X with A:=X.A.mark (some e),calm:=false,xe:=λ_ _=>False }
section
variable{X:Cx}{pins:List (Addr×Obj)}{σ:L2.St}{H:Hp}{s:Shared}
theorem Qkm(I:Inv X pins σ H s)(e:Value):Inv (mkd X e) pins σ H s:=
 ⟨⟨I.ok.mod,I.ok.kind,I.ok.glob,I.ok.blt,I.ok.above,I.ok.inj,I.ok.has,I.ok.cab,(λh=>nomatch h),I.ok.frames,I.ok.stk,I.ok.exf,I.ok.bs,I.ok.bsz,I.ok.noex,I.ok.exfs,I.ok.funs,I.ok.frf⟩,I.os,I.bare,I.base,I.loc,I.cell,I.free,I.freeC,I.pin,I.hok,I.len⟩
theorem Qm6{e:Value}(ok:X.Ok)(I:Inv (mkd X e) pins σ H s):Inv X pins σ H s:=⟨ok,I.os,I.bare,I.base,I.loc,I.cell,I.free,I.freeC,I.pin,I.hok,I.len⟩
theorem Qkl{a C:Addr}(I:Inv X pins σ H s)(hf:H a=none)(h0:X.s₀.heap.get? a=none)(hp:∀p∈X.pn++pins,p.1≠a)(x:ExAt a C s.heap):Inv X pins σ (upd H a (exO a C)) s:=by
 obtain⟨o,vs,ho,hcl,hd⟩:=id x;have ne:∀b u,H b=some u->b≠a:=λb u e z=>by rw[z,hf] at e;cases e
 refine⟨I.ok,I.os,I.bare,⟨I.base.keep,I.base.slot,λb u e n hx=>?_,I.base.there,λb xs e=>?_,λb u xs e=>?_,λb ps e=>?_⟩,I.loc,I.cell,?_,λy c e=>?_,λp hp'=>?_,λb u e=>?_,I.len⟩
 ·rw[Jb (λz=>by rw[z,h0] at e;cases e)];exact I.base.free b u e n hx
 ·have q:=I.base.tups b xs e;rw[Jb (ne b _ q)];exact q
 ·have q:=I.base.frzs b u xs e;rw[Jb (ne b _ q)];exact q
 ·obtain⟨m,q⟩:=I.base.tbls b ps e;exact⟨m,by rw[Jb (ne b _ q)];exact q⟩
 ·obtain⟨m,⟨oL,es,ep,hoL,hdL,_⟩,_⟩:=I.loc;rw[Jb (λz=>by rw[z,ho] at hoL;cases hoL;rw[hd] at hdL;cases hdL)];exact I.free
 ·obtain⟨v,oc,hoc,hdc⟩:=I.cell y c e;rw[Jb (λz=>by rw[z,ho] at hoc;cases hoc;rw[hd] at hdc;cases hdc)];exact I.freeC y c e
 ·obtain⟨e,n,r⟩:=I.pin p hp';exact⟨e,by rw[Jb (hp p hp')];exact n,r⟩
 ·by_cases hb:b=a
  ·subst hb;rw[Jc] at e;cases e;exact⟨x,⟨o,ho⟩,λh1 h2 y k=>by
    obtain⟨o',vs',e',c',d'⟩:=y;exact⟨o',vs',k _ e',c',d'⟩⟩
  ·rw[Jb hb] at e;exact(I.hok b u e).stay (λ_ _ _ q=>q) (λc q=>by rw[Jb (ne c _ q)];exact q) (λc xs q=>by rw[Jb (ne c _ q)];exact q) λc z u q=>by rw[Jb (ne c _ q)];exact q
theorem Qm7{i:Nat}{n:Str}{m:Str->Option Value}{v:Option Value}{h':JM}{tk:Nat}(I:Inv X pins σ H s)(hN:X.N.Nodup)(hi:X.N[i]? = some n)
  (hm:∀(j:Nat)(x:Str)(u:V),X.N[j]? = some x->σ[j]? = some (some u)->Vis X.env.scope x->∃y,RelV u y/\Look X.env s.heap m x y)
  (hn:h'.Ns X.env.locals (λx=>if x=n then v else m x))(hs:Qac X.env.locals s.heap h'):Inv X pins (σ.set i none) H { s with heap:=h',toks:=tk }:=by
 have neL:∀b o,X.s₀.heap.get? b=some o->b≠X.env.locals:=λb o e=>Qs (Qt (Qi e) I.ok.above)
 have cne:=I.cne;refine⟨I.ok,I.os,I.bare,⟨λb o e z hb hx=>(hs.2 b (neL b o e)).trans (I.base.keep b o e z hb hx),λb o e z hb hx=>?_,I.base.free,λb o e hx=>?_,I.base.tups,I.base.frzs,I.base.tbls⟩,⟨_,hn,λj y u e1 e2 e3=>?_⟩,λy c e=>?_,I.free,I.freeC,λp hp=>?_,λb o e=>?_,?_⟩
 ·obtain⟨sl,e1⟩:=I.base.slot b o e z hb hx;exact⟨sl,(hs.2 b (neL b o e)).trans e1⟩
 ·obtain⟨o',e1⟩:=I.base.there b o e hx;exact⟨o',(hs.2 b (neL b o e)).trans e1⟩
 ·by_cases hj:j=i
  ·subst hj;rw[QaA] at e2;split at e2
   ·split at e2<;>cases e2
   ·exact absurd rfl ‹¬_›
  ·rw[YK (Qaz hj)] at e2;obtain⟨u',r',q⟩:=hm j y u e1 e2 e3;refine⟨u',r',?_⟩;rcases q with⟨k,e⟩ | ⟨k,c,e,z⟩
   ·have:y≠n:=λe=>hj (Qer hN e1 (e ▸ hi))
    exact .inl ⟨k,by simp[this,e]⟩
   ·exact .inr ⟨k,c,e,z.sameBut hs (cne y c e)⟩
 ·obtain⟨w',z⟩:=I.cell y c e;exact⟨w',z.sameBut hs (cne y c e)⟩
 ·obtain⟨e,z,ne,nf,d⟩:=I.pin p hp;exact⟨(hs.2 p.1 ne).trans e,z,ne,nf,d⟩
 ·refine(I.hok b o e).stay (λc u hc q=>(hs.2 c ?_).trans q) (λ_ q=>q) λ_ _ q=>q
  rintro rfl;have z:=I.free;rcases hc with r | r
  ·rw[r,e] at z;cases z
  ·rw[r] at z;cases z
 ·rw[Zj];exact I.len
end
def XP(X:Cx)(pins:List (Addr×Obj))(Ex:L2.St->Addr->Hp->Prop)(e:Value)(s1:Shared):Prop:=
 ∃(σ:L2.St)(C:Addr)(H':Hp)(a t:Addr)(B:JM),e=.ref a/\QuZ B X.stack a (.ref C) (.ref t) s1.heap/\H' a=none/\X.s₀.heap.get? a=none/\(∀p∈X.pn++pins,p.1≠a) /\
  (∀(h2:JM)(tk:Nat),B.StaysIn h2->s1.heap.UpToSlots h2->Inv X pins σ H' { s1 with heap:=h2,toks:=tk })/\Ex σ C H'
abbrev TX:=L2.St->Hp->VK->(Addr->Hp->Prop)->Prop
def PEX(X:Cx)(e:QL)(t:TX):Prop:=∀(pins:List (Addr×Obj))(s:Shared)(σ:L2.St)(H:Hp)(Q:VK)(Ex:Addr->Hp->Prop),Inv X pins σ H s->t σ H Q Ex ->
 wpAny (model X.prog X.w) X.A (eval e X.env) (EP X pins σ Q) (XP X pins λσ1 C H1=>σ1=σ/\Ex C H1) s
section
variable{X:Cx}{k:Nat}{f:Addr}{fd:Qy}{ps:List Str}{sp:Sp}{x:Str}{p pos:Pos}{e:QL}{es:List QL}{t:TA}
end
section
variable{X:Cx}{R:Addr}{i:Nat}{n r:Str}{call hx:QL}{tc:TX}{th:TE}{rp np hp hpos pos:Pos}
end
structure Qlc (k:Nat) (A:Q5):Prop where
 dp:A.depth+3*k+5<recursionLimit
 un:A.units+16*k+200<cLine
theorem Room.m{k:Nat}{A:Q5}(r:Room k A)(e:Value):Qlc k (A.mark (some e)):=⟨r.dp,r.un⟩
structure FnM (P:QD) (w:Je) (K:PySem.W.Frag) (mg:Str->Option Value) (base:JM) (k:Nat) (f:Addr) (fd:Qy) (ps:List Str) (sp:Sp):Prop where
 len:∀vs H Q E,sp vs H Q E->vs.length=ps.length
 run:∀(A:Q5)(outer:List Env)(s:Shared)(H:Hp)(args:Args)(us:List Value)(vs:List V)(Q:VK)(E:XK),Qlc k A->Env0 P w K mg base A outer s H->Qdi s fd args (ps.zip us)->Vals vs us->sp vs H Q E ->
  codeAny (model P w) A (.call (.ref f) args) (CR CX0 outer P w H s Q E) s
def cxM(P:QD)(w:Je)(K:PySem.W.Frag)(mg:Str->Option Value)(base:JM)(N:List Str)(qual:Str)(scope:ZK)(f:Addr)(cd:Value)(A:Q5)(outer:List Env)(s:Shared)(H:Hp)(E:XK):Cx:=
 { cxOf CX0 P w K mg base N qual scope f cd A outer s H E with calm:=false,xe:=λ_ _=>False }
section
variable{P:QD}{w:Je}{K:PySem.W.Frag}{mg:Str->Option Value}{base:JM}
theorem Qh1{N ps:List Str}{qual:Str}{scope:ZK}{f:Addr}{cd:Value}{A:Q5}{outer:List Env}{s s1:Shared}{H:Hp}{E:XK}{us:List Value}{vs:List V}
  (S:Jg N ps scope)(e0:Env0 P w K mg base A outer s H)(hl:vs.length=ps.length)(r:Vals vs us)
  (x:InCallC s s.heap.objs.size (bindL (envOfC qual scope s.heap.objs.size f cd).kindOf (ps.zip us) λ_=>none) (cellsFrom (s.heap.objs.size+1) scope.names []) (bindC (envOfC qual scope s.heap.objs.size f cd).kindOf (ps.zip us) λ_=>none) s1) :
  L2.Inv (cxM P w K mg base N qual scope f cd A outer s H E) [] (start N vs) H s1:=by
 have e1:Env0 P w K mg base { A with handled:=none } outer s H:=⟨e0.frames,e0.mod,e0.bs,e0.bsz,e0.funs,e0.frf,e0.hok,e0.bare⟩;have I:=Qfm (CX:=CX0) (E:=E) (A:={ A with handled:=none }) S rfl e1 hl r x;exact⟨⟨I.ok.mod,I.ok.kind,I.ok.glob,I.ok.blt,I.ok.above,I.ok.inj,I.ok.has,I.ok.cab,(λh=>nomatch h),I.ok.frames,I.ok.stk,I.ok.exf,I.ok.bs,I.ok.bsz,I.ok.noex,I.ok.exfs,I.ok.funs,I.ok.frf⟩,I.os,I.bare,I.base,I.loc,I.cell,I.free,I.freeC,I.pin,I.hok,I.len⟩
theorem okM{x qual:Str}{st:ZA}{f:Addr}{fd:Qy}{N ps:List Str}{k:Nat}{sp:Sp}(F:Fun K x qual st f fd)(S:Jg N ps (Qk st))(len:∀vs H Q E,sp vs H Q E->vs.length=ps.length)
  (hbody:∀(cdv:Value)(A:Q5)(outer:List Env)(s:Shared)(H:Hp)(vs:List V)(Q:VK)(E:XK),Qlc k (A.deeper (envOfC qual (Qk st) s.heap.objs.size f cdv))->sp vs H Q E ->
   ∃t,PSs (cxM P w K mg base N qual (Qk st) f cdv A outer s H E) (Jd st) t/\t { nx:=λ_ H'=>Q .non H',rt:=Q } (start N vs) H):FnM P w K mg base (k+1) f fd ps sp:=by
 obtain⟨oc,od,kV,doc,pm,an,cdv,ct,osl,rfl,lk,hcd⟩:=F.ex;refine⟨len,λA outer s H args us vs Q E hr e0 hb r hsp=>?_⟩;have hl:=len _ _ _ _ hsp;have KX:K.In s.heap:=e0.mod.kin.keeps λb o e=>(e0.bs b o e).1
 have lim:s.heap.NoLimit:=e0.mod.nolimit.keeps λb o e=>(e0.bs b o e).1
 have hkind:∀y∈ps.zip us,(Qk st).names.lookup y.1=some .local∨((Qk st).names.lookup y.1=some .cell/\((cellsFrom (s.heap.objs.size+1) (Qk st).names []).lookup y.1).isSome=true):=λ⟨n,v⟩ hy=>by
  rcases S.par n (Qbb hy).1 with q | q
  ·exact .inl q
  ·exact .inr ⟨q,PySem.W.cellsFrom_some _ _ _ (.inl q)⟩
 have hdp:A.depth<recursionLimit:=by have:=hr.dp;omega
 refine Qoj hdp (KX _ _ lk) rfl S.co S.gen rfl (PySem.W.codeRec_of KX hcd) (hb _ _ _ _ ?_);refine Qif S.kind hkind λenv he s1 x=>?_
 subst he;refine⟨lim.keeps x.toInCall.keep,codeAny_func ?_⟩;have hr2:Qlc k (A.deeper (envOfC qual (Qk st) s.heap.objs.size f cdv)):=⟨by have:=hr.dp;show A.depth+1+3*k+5<_;omega,by have:=hr.un;show A.units+3+16*k+200<_;omega⟩;obtain⟨t,ht,hq⟩:=hbody cdv A outer s H vs Q E hr2 hsp;have I:=Qh1 (E:=E) S e0 hl r x;refine wpAny_mono (ht [] s1 (start N vs) H _ I hq) (λfl s' hs=>?_) λe s' hs=>Jh hs
 have fin:∀{σ':L2.St}{H':Hp}{v:V}{u:Value},L2.Inv (cxM P w K mg base N qual (Qk st) f cdv A outer s H E) [] σ' H' s'->RelV v u->Q v H'->CE outer P w H s Q u s':=
  λ{σ' H' v u} J rv q=>⟨v,H',J.os,J.bare,J.base,J.hok,rv,q⟩
 cases fl with
 |ret u=>
  obtain⟨v,σ',H',J,rv,q⟩:=hs;exact fin J rv q
 |next=>
  obtain⟨σ',H',J,q⟩:=hs;exact fin (v:=V.non) (u:=Ye) J rfl q
 |brk=>
  obtain⟨_,_,_,q⟩:=hs;exact Jh q
 |cont=>
  obtain⟨_,_,_,q⟩:=hs;exact Jh q
end
section
variable{X:Cx}{k:Nat}{f:Addr}{fd:Qy}{ps:List Str}{sp:Sp}{x:Str}{p pos:Pos}{e:QL}{es:List QL}{t:TA}
theorem Qmb(F:FnM X.prog X.w X.K X.mg X.base k f fd ps sp)(hr:Qlc k X.A)(hg:Gl X x)(hm:X.mg x=some (.ref f))(hk:PySem.W.keepIn X.K (.ref f)=true)(hb:Binds X.K fd ps [])
  (ha:PA X (e::es) t)(hdb:(x == ("__debug__" : Str))=false:=by decide)(he:starEach (e::es) X.env=(false,eval e X.env)::starEach es X.env:=by rfl)(hpl:(backTo pos (starEach es X.env)).any (·.1)=false:=by rfl) :
  PE X (.Call (.Name x p) (e::es) [] pos) (λσ H Q=>t σ H λvs H1=>sp vs H1 Q E0):=by
 intro pins s σ H Q I h;refine Z3 (Qb2 I hg hm ?_ hdb);refine PySem.W.callWith_K (h₀:=X.base) I.ok.mod.kin hk (thn (ha pos pins s σ H _ I h) λus s1 ⟨vs,H1,I1,r,q⟩=>⟨I1.kIn,?_⟩) he hpl;have hl:us.length=ps.length:=by rw[<- r.length];exact F.len _ _ _ _ q
 have hbb:Qdi s1 fd ⟨us,[]⟩ (ps.zip us):=by
  have z:=hb s1 us I1.kIn (by rw[Zk];exact hl);rw[Zk] at z;exact z
 refine Qa3 (YT (F.run X.A X.stack s1 H1 ⟨us,[]⟩ us vs Q _ hr I1.env0 hbb r q) λr s2 hq=>?_);cases r with
 |error e=>exact Jh hq
 |ok fl=>
  cases fl with
  |ret u=>exact I1.after hq
  |next=>exact Jh hq
  |brk=>exact Jh hq
  |cont=>exact Jh hq
end
section
variable{X:Cx}
theorem Qfy:CallR X (.builtin "isinstance") (λxs H Q=>∃a C y c b,xs=[.ref a,y]/\H a=some (exO a C)/\ExC X.K C/\(∀u,RelV y u->u=c)/\PySem.W.kitOne X.K (.ref C) c=some b/\Q (.bl b) H):=by
 intro pins s σ H xs us Q I r h;obtain⟨a,C,y,c,b,rfl,ha,hc,hy,e,q⟩:=h;obtain⟨u,v,rfl,ru,rv⟩:=vals2 r;cases(show u=JG a from ru);cases hy v rv;exact PySem.W.kia_one (Qp8 hc) I.kIn (I.hok a _ ha).1 e (λz=>nomatch z) λtk=>⟨.bl b,H,I.tok tk,rfl,q⟩
theorem bools_eq{bs:List Bool}{us:List Value}(r:Vals (bs.map V.bl) us):us=bs.map Zo:=by
 induction bs generalizing us with
 |nil=>cases r;rfl
 |cons b bs ih=>
  cases r with
  |cons r t=>
   cases(show _=Zo b from r);rw[ih t];rfl
def Qb6:Value->Bool
 |.bool b=>b
 |_=>false
theorem Qh6(bs:List Bool):(bs.map Zo).countP Qb6=bs.countP id:=by
 rw[List.countP_map];exact List.countP_congr λb _=>Iff.rfl
def QoR:V->List V->Hp->VK->Prop:=λx vs H Q=>∃(l:Addr)(bs:List Bool),x=.ref l/\vs=[.bl true]/\H l=some (.lst (bs.map V.bl))/\Q (.int (bs.countP id:Nat)) H
theorem QmS:MtR X "list.count" QoR:=by
 intro pins s σ H x vs v us Q I rx rv h;obtain⟨l,bs,rfl,rfl,hH,q⟩:=h;cases rx;obtain⟨u,rfl,ru⟩:=rv.one;cases(show u=Zo true from ru);obtain⟨z,its,n,r,hl,e⟩:=I.lstM hH;have hi:=bools_eq r;subst hi;refine Qa5 F.slot_list_count ⟨_,e,rfl⟩ F.entry_list_count (F.args_list_count_2 _ _) (SeqAt.list_countAt l (bs.map Zo).toArray n none #[] (.bool true) Qb6) ⟨e,λy hy=>?_,?_⟩
 ·obtain⟨b,_,rfl⟩:=QU.mp (Yb.mp hy);have:=QeW (A:=X.A.in1) (s:=s) b true;rw[show(b == true)=b by cases b<;>rfl] at this;exact this
 ·have e2:((bs.map Zo).toArray.toList.countP Qb6:Nat)=bs.countP id:=Qh6 bs;rw[e2];exact⟨.int (bs.countP id:Nat),H,I.tok _,⟨_,rfl⟩,q⟩
def QoP:V->List V->Hp->VK->Prop:=λx vs H Q=>∃(l:Addr)(bs:List Bool)(j:Nat),x=.ref l/\vs=[.bl true]/\H l=some (.lst (bs.map V.bl))/\bs[j]? = some true/\(∀m,m<j->bs[m]? = some false)/\Q (.int (j:Nat)) H
theorem QmR:MtR X "list.index" QoP:=by
 intro pins s σ H x vs v us Q I rx rv h;obtain⟨l,bs,j,rfl,rfl,hH,hj,hm,q⟩:=h;cases rx;obtain⟨u,rfl,ru⟩:=rv.one;cases(show u=Zo true from ru);obtain⟨z,its,n,r,hl,e⟩:=I.lstM hH;have hi:=bools_eq r;subst hi;have hlt:=(Qw.mp hj).1;have hsz:(bs.map Zo).toArray.size=bs.length:=by simp
 rw[Qg] at z;have hbig:bs.length<2^60:=ZU z (by decide);refine Qa5 F.slot_list_index ⟨_,e,rfl⟩ F.entry_list_index (F.args_list_index_2 _ _) (SeqAt.list_indexAt l (bs.map Zo).toArray n none #[] (.bool true) Qb6 j (by rw[hsz];exact hlt) (by omega) ?_ ?_) ⟨e,λy hy=>?_,?_⟩
 ·have:=(Qw.mp hj).2;simp[Qb6,this]
 ·intro m hm1 hm2;have:=(Qw.mp (hm m hm2)).2;simp[Qb6,this]
 ·obtain⟨b,_,rfl⟩:=QU.mp (Yb.mp hy);have:=QeW (A:=X.A.in1) (s:=s) b true;rw[show(b == true)=b by cases b<;>rfl] at this;exact this
 ·exact⟨.int (j:Nat),H,I.tok _,⟨_,rfl⟩,q⟩
end
end Rx
namespace Rd
open L2
mutual
inductive Dat (H:Hp):V->PyData->Prop
 |non:Dat H .non .none
 |bl (b:Bool):Dat H (.bl b) (.bool b)
 |int (i:Int):Dat H (.int i) (.int i)
 |str (x:Str):Yp (.str x)=true->Dat H (.str x) (.str x)
 |tup {a:Addr} {xs:List V} {ds:List PyData}:H a=some (.tup xs)->Dats H xs ds->Dat H (.ref a) (.tuple ds)
 |lst {a:Addr} {xs:List V} {ds:List PyData}:H a=some (.lst xs)->Dats H xs ds->Dat H (.ref a) (.list ds)
inductive Dats (H:Hp):List V->List PyData->Prop
 |nil:Dats H [] []
 |cons {x:V} {xs:List V} {d:PyData} {ds:List PyData}:Dat H x d->Dats H xs ds->Dats H (x::xs) (d::ds)
end
mutual
theorem ZP{P:QD}{w:Je}{H:Hp}{h:JM}(ok:HOk P w H h):∀(d:PyData)(x:V)(v:Value),Dat H x d->RelV x v->(∃as,QiA h v d as)/\d.canLay0=true
 |.none,_,v,.non,r=>by cases r;exact⟨⟨_,.none⟩,rfl⟩
 |.bool b,_,v,.bl _,r=>by cases r;exact⟨⟨_,.bool b⟩,rfl⟩
 |.int i,_,v,.int _,r=>by obtain⟨t,rfl⟩:=r;exact⟨⟨_,.int i t⟩,rfl⟩
 |.str z,_,v,.str _ c,r=>by obtain⟨t,rfl⟩:=r;exact⟨⟨_,.str z t⟩,c⟩
 |.tuple ds,_,v,.tup (a:=a) (xs:=xs) e q,r=>by
  cases r;obtain⟨_,its,rv,o,ho,hc,_,n,hd⟩:=ok a _ e;obtain⟨⟨as,ra⟩,cl⟩:=Yi ok ds xs its q rv;exact⟨⟨as,.tuple ho hc hd ra⟩,cl⟩
 |.list ds,_,v,.lst (a:=a) (xs:=xs) e q,r=>by
  cases r;obtain⟨_,its,n,rv,ho⟩:=ok a _ e;obtain⟨⟨as,ra⟩,cl⟩:=Yi ok ds xs its q rv;exact⟨⟨a::as,.list ho rfl rfl ra⟩,cl⟩
 |.dict _,_,_,q,_=>nomatch q
theorem Yi{P:QD}{w:Je}{H:Hp}{h:JM}(ok:HOk P w H h):∀(ds:List PyData)(xs:List V)(vs:List Value),Dats H xs ds->Vals xs vs->(∃as,Qcr h vs ds as)/\JB ds=true
 |[],_,vs,.nil,r=>by cases r;exact⟨⟨_,.nil⟩,rfl⟩
 |d::ds,_,vs,.cons (x:=x) (xs:=xs) q qs,r=>by
  cases r with
  |cons r rs=>
   obtain⟨⟨a1,r1⟩,c1⟩:=ZP ok d x _ q r;obtain⟨⟨a2,r2⟩,c2⟩:=Yi ok ds xs _ qs rs;exact⟨⟨_,.cons r1 r2⟩,by simp[JB,c1,c2]⟩
end
section
variable{X:Cx}
def Qw9(X:Cx):R2:=λx y H Q=>∃dx dy,Dat H x dx/\Dat H y dy/\X.A.units+min dx.depth dy.depth<cLine/\Q (.bl (Jo dx dy)) H
theorem Qtf:OpR X (compareOp .Eq) (Qw9 X):=by
 intro pins s σ H x y v u Q I rx ry h;obtain⟨dx,dy,qx,qy,hu,q⟩:=h;obtain⟨⟨as,ra⟩,ca⟩:=ZP I.hok dx x v qx rx;obtain⟨⟨bs,rb⟩,cb⟩:=ZP I.hok dy y u qy ry;exact SeqAt.compareEq_reads ra rb ca cb hu ⟨.bl _,H,I,rfl,q⟩
open Classical in
noncomputable def eqH (h:JM) (d:PyData) (y:Value):Bool:=decide (∃e as,QiA h y e as/\e.canLay0=true/\Jo e d=true)
open Classical in
theorem Qv0{h:JM}{d:PyData}{y:Value}(q:∃e as,QiA h y e as/\e.canLay0=true/\Jo e d=true):eqH h d y=true:=by
 unfold eqH;exact decide_eq_true q
open Classical in
theorem Qv1{h:JM}{d:PyData}{y:Value}(q:¬ ∃e as,QiA h y e as/\e.canLay0=true/\Jo e d=true):eqH h d y=false:=by
 unfold eqH;exact decide_eq_false q
theorem Qn3{h:JM}{d e:PyData}{y:Value}{as:List Addr}(r:QiA h y e as)(c:e.canLay0=true):eqH h d y=Jo e d:=by
 cases q:Jo e d with
 |true=>exact Qv0 ⟨e,as,r,c,q⟩
 |false=>
  refine Qv1 λ⟨e',as',r',c',q'⟩=>?_
  rw[<- SeqAt.Reads.unique e e' y as as' c r r',q] at q';cases q'
theorem Qdc{h:JM}{d:PyData}:∀{vs:List Value}{ds:List PyData}{as:List Addr},Qcr h vs ds as->JB ds=true->vs.any (eqH h d)=ds.any λe=>Jo e d
 |_,_,_,.nil,_=>rfl
 |_,_,_,.cons r rs,c=>by
  simp only[JB,Ju] at c;rw[Qul,Qul,Qn3 r c.1,Qdc rs c.2]
theorem QcX{A:Q5}{s:Shared}{d:PyData}{v:Value}{bs:List Addr}(rv:QiA s.heap v d bs)(cv:d.canLay0=true):∀{vs:List Value}{ds:List PyData}{as:List Addr},Qcr s.heap vs ds as->JB ds=true->A.units+d.depth<cLine ->
  ∀u∈vs,SeqAt.EqAt A s u v (eqH s.heap d u)
 |_,_,_,.nil,_,_=>λu hu=>nomatch hu
 |_,_,_,.cons (d:=e) r rs,c,hu=>λu hm=>by
  simp only[JB,Ju] at c;rcases Qx.mp hm with z | z
  ·subst z;rw[Qn3 r c.1];exact Qnq e d A s _ v _ bs r rv c.1 cv (ZU (Nat.add_le_add_left (Qd5 _ _) _) hu)
  ·exact QcX rv cv rs c.2 hu u z
def Qwn(X:Cx)(neg:Bool):R2:=λx y H Q=>∃c ps ds d,y=.ref c/\H c=some (.tup ps)/\Dats H ps ds/\Dat H x d/\X.A.in1.units+d.depth<cLine/\Q (.bl (if neg then !(ds.any λe=>Jo e d) else ds.any λe=>Jo e d)) H
theorem Qtb:OpR X (compareOp .In) (Qwn X false):=by
 intro pins s σ H x y v u Q I rx ry h;obtain⟨c,ps,ds,d,rfl,hc,qs,qx,hu,q⟩:=h;cases ry;obtain⟨⟨as,ra⟩,ca⟩:=ZP I.hok d x v qx rx;obtain⟨_,its,rv,tp⟩:=I.hok c _ hc;have tp:=TupN.tup tp;obtain⟨⟨bs,rb⟩,cb⟩:=Yi I.hok ds ps its qs rv;refine SeqAt.in_tupleAt (eqH s.heap d) tp (λw hw=>QcX ra ca rb cb hu w (Yb.mp hw)) ⟨.bl _,H,I,rfl,?_⟩;rw[show its.toArray.any (eqH s.heap d)=its.any (eqH s.heap d) by simp,Qdc rb cb];exact q
theorem QjK:OpR X (compareOp .NotIn) (Qwn X true):=by
 intro pins s σ H x y v u Q I rx ry h;obtain⟨c,ps,ds,d,rfl,hc,qs,qx,hu,q⟩:=h;cases ry;obtain⟨⟨as,ra⟩,ca⟩:=ZP I.hok d x v qx rx;obtain⟨_,its,rv,tp⟩:=I.hok c _ hc;have tp:=TupN.tup tp;obtain⟨⟨bs,rb⟩,cb⟩:=Yi I.hok ds ps its qs rv;refine SeqAt.notIn_tupleAt (eqH s.heap d) tp (λw hw=>QcX ra ca rb cb hu w (Yb.mp hw)) ⟨.bl _,H,I,rfl,?_⟩;rw[show its.toArray.any (eqH s.heap d)=its.any (eqH s.heap d) by simp,Qdc rb cb];exact q
end
section
variable{X:Cx}
end
end Rd
namespace L2
def Ite(l:Addr):It:=
 ⟨λi H=>∃xs x,H l=some (.lst xs)/\xs[i]? = some x,
  λi H v H'=>∃p x,H p=none/\(∀xs,H l=some (.lst xs)->xs[i]? = some x)/\v=.ref p/\H'=upd H p (.tup [.int (i:Nat),x]),
  λi H=>∃xs,H l=some (.lst xs)/\xs.length<=i⟩
theorem QiP{P:QD}{w:Je}{K:PySem.W.Frag}{elts:List QL}{x1}{tpos:Pos}{e it l:Addr}(hne:e≠it) :
  Turn P w K (.Tuple elts x1 tpos) (Ite l) [e,it] e (λi h=>(∃old,IsEnum h e it (i:Nat) old)/\h.IsListIter it l i) where
 mem:=by simp
 obj:=λi h st b hb=>by
  obtain⟨⟨old,a1⟩,⟨o2,a2,_,d2⟩⟩:=st;simp only[Qx,QZ,or_false] at hb;rcases hb with rfl | rfl
  ·exact⟨_,a1,λv q=>nomatch q⟩
  ·exact⟨_,a2,λv q=>by rw[d2] at q;cases q⟩
 keep:=λi h h' st k=>by
  obtain⟨⟨old,a1⟩,⟨o2,a2,c2⟩⟩:=st;exact⟨⟨old,k e (by simp) _ a1⟩,o2,k it (by simp) _ a2,c2⟩
 item:=by
  intro X hP hw hK hc i pins s σ H E I hf st hg;subst hP hw hK;obtain⟨xs,x,h1,hx⟩:=hg;obtain⟨⟨old,a1⟩,a2⟩:=st;obtain⟨its,r1,p1,_⟩:=I.list (SqL.of h1);obtain⟨u,hu,ru⟩:=r1.get hx;refine wpAny_pyNext_enum_item a1 a2 p1.isList (x:=u) (by simpa using hu) hne λh' o' l' tp sz kp=>?_
  have fr:H s.heap.objs.size=none:=I.hok.fresh (Ql _);have n1:e≠s.heap.objs.size:=Qs (Qi a1);have n2:it≠s.heap.objs.size:=by
   obtain⟨o2,a2,_⟩:=a2;exact Qs (Qi a2)
  refine⟨_,rfl,Qig o' λh2 e2 s2=>?_⟩;have I1:Inv X pins σ (upd H s.heap.objs.size (.tup [.int (i:Nat),x])) { s with heap:=h2,toks:=s.toks+1 }:=by
   refine I.turnedNew (ch:=[e,it]) hf (λb v hb q=>?_) (Ql _) ⟨by show 2<=sizeLine;decide,[.int (i:Nat) s.toks,u],.cons ⟨_,rfl⟩ (.cons ru .nil),?_⟩
   ·simp only[Qx,QZ,or_false,not_or] at hb;exact s2.extBut _ _ hb.1 (kp b v hb.1 hb.2 q)
   ·exact⟨_,s2.extBut _ _ n1.symm tp,rfl,rfl,0,rfl⟩
  refine⟨.ref s.heap.objs.size,_,I1,rfl,⟨_,x,fr,λxs' q=>?_,rfl,rfl⟩,⟨⟨u,e2⟩,?_⟩,λb hb=>?_⟩
  ·rw[h1] at q;cases q;exact hx
  ·exact l'.extBut s2.extBut hne.symm
  ·simp only[Qx,QZ,or_false] at hb;rcases hb with rfl | rfl
   ·rw[Jb n1];exact(hf _ (by simp)).1
   ·rw[Jb n2];exact(hf _ (by simp)).1
 done:=by
  intro X hP hw hK hc i pins s σ H E I hf st hg;subst hP hw hK;obtain⟨xs,h1,he⟩:=hg;obtain⟨⟨old,a1⟩,a2⟩:=st;obtain⟨its,r1,p1,_⟩:=I.list (SqL.of h1);have l1:=r1.length;refine wpAny_pyNext_enum_end (I.ok.hd hc) a1 a2 p1.isList (by simp;omega) λh' kp=>⟨rfl,I.turnedAll (t':=s.toks) (ch:=[e,it]) hf λb v hb q=>?_⟩
  simp only[Qx,QZ,or_false,not_or] at hb;exact kp b v hb.2 q
 self:=λ_ _ _ _ _ st h=>by
  obtain⟨⟨old,a1⟩,_⟩:=st;exact Qa2 a1 h
def QvX(ta:TA):TI:=λσ H R=>ta σ H λvs H1=>∃l xs,vs=[.ref l]/\H1 l=some (.lst xs)/\R (Ite l) H1
theorem QfA:bootBuiltins "enumerate" = some (.type "enumerate"):=by decide +kernel
section
variable{X:Cx}
theorem Qo9{a:QL}{elts:List QL}{x1}{tpos:Pos}{ta:TA}{p pos:Pos}(hg:Gl X "enumerate")(hm:X.mg "enumerate" = none)(ha:PA X [a] ta)(hs:starEach [a] X.env=[(false,eval a X.env)]:=by rfl) :
  PI X (.Tuple elts x1 tpos) (.Call (.Name "enumerate" p) [a] [] pos) (QvX ta):=by
 intro pins s σ H R I h;refine Call_ (Qbx I hg hm QfA (JL (thn (ha pos pins s σ H _ I h) λus s1 ⟨vs,H1,I1,r1,q1⟩=>?_) hs rfl));obtain⟨l,xs,e,h1,q⟩:=q1;subst e;obtain⟨u,rfl,ru⟩:=vals1 r1;cases(show u=JG l from ru);obtain⟨its,w1,p1,_⟩:=I1.list (SqL.of h1);refine call_enumerate_list p1.isList λh' e1 i1 sz kp=>?_
 refine Qa2 (s:={ s1 with heap:=h' }) e1 ?_
 refine⟨s1.heap.objs.size+1,_,_,_,H1,rfl,I1.kept (t':=s1.toks) kp,QiP (by show ¬(s1.heap.objs.size+1=s1.heap.objs.size);omega),⟨⟨_,e1⟩,i1⟩,λb hb=>?_,q⟩;have hb':s1.heap.objs.size<=b:=by
  simp only[Qx,QZ,or_false] at hb;rcases hb with rfl | rfl<;>omega
 exact I1.fpOk hb' (I1.hok.fresh hb')
end
section
variable{prog:QD}{w:Je}{A:Q5}{R:Qhp->Shared->Prop}{s:Shared}
theorem Qe4{elt tg iter:QL}{ifs:List QL}{g0:Qd6}{scope:ZK}{pos:Pos}{it acc:Value}{env:Env}
  (h0:codeAny (model prog w) A (.compLoop (.ListComp elt [g0,⟨tg,iter,ifs,0⟩] scope pos) 1 it acc env) R s)
  (h:wpAny (model prog w) A (pyIter it) (λit' s'=>codeAny (model prog w) A (.compLoop (.ListComp elt [g0,⟨tg,iter,ifs,0⟩] scope pos) 1 it' acc env) R s') (notedBy (model prog w) A env λx s'=>R (.error x) s') s) :
  codeAny (model prog w) A (.compStart (.ListComp elt [g0,⟨tg,iter,ifs,0⟩] scope pos) 1 it acc env) R s:=by
 refine codeAny_of_tree ?_
 show wpAny _ _ ((compStart (.ListComp elt [g0,⟨tg,iter,ifs,0⟩] scope pos) 1 it acc env).onRaise (λx=>do noteFrame x env;standAt theWindowsPlace)) _ _ s;refine wpAny_notedAt ?_
 unfold compStart;show wpAny _ _ (ask >>= _) _ _ s;refine wpAny_bind (wpAny_askSetting (wpAny_ite ?_));split
 ·first
   |exact wpAny_bind (Qj (Qj ⟨rfl,h0⟩))
   |exact Qj ⟨rfl,h0⟩
 ·first
   |exact wpAny_bind (wpAny_rule (wpAny_bind (wpAny_standAt (wpAny_bind (wpAny_mono h (λit' s' h'=>Qj ⟨rfl,h'⟩) λ_ _ x=>x)))))
   |exact wpAny_bind (wpAny_rule (wpAny_bind (wpAny_standAt (wpAny_bind (wpAny_mono h (λit' s' h'=>Qj (Qj ⟨rfl,h'⟩)) λ_ _ x=>x)))))
end
theorem QiO{Y:Cx}{elt tg iter:QL}{ifs:List QL}{g0:Qd6}{scope:ZK}{cpos:Pos}{it D:Addr}(Q:PySem.Fin->Shared->Prop)(E:Value->Shared->Prop)(s:Shared)
  (h:wpAny (model Y.prog Y.w) Y.A (pyNext (.ref it)) (λr s1=>match r with
   |none=>Q (.done .next) s1
   |some v=>wpAny (model Y.prog Y.w) Y.A (letOwnedTupleGo tg (.ref it) v) (λ_ s2=>Qnn Y tg ifs (Qla Y elt D) v (λs3=>Q (.again (.compLoop (.ListComp elt [g0,⟨tg,iter,ifs,0⟩] scope cpos) 1 (.ref it) (.ref D) Y.env)) s3) s2) E s1) E s) :
  wpAny (model Y.prog Y.w) Y.A (compTurn (.ListComp elt [g0,⟨tg,iter,ifs,0⟩] scope cpos) 1 (.ref it) (.ref D) Y.env) Q E s:=by
 have e:compTurn (.ListComp elt [g0,⟨tg,iter,ifs,0⟩] scope cpos) 1 (.ref it) (.ref D) Y.env=(do
   standAt iter.pos
   match <- pyNext (.ref it) with
   |none=>pure (.done .next)
   |some v=>
    letOwnedTupleGo tg (.ref it) v
    assign tg Y.env v
    let mut ok:=true
    for c in ifs do
     if ok then ok <- isTrue c Y.env (eval c Y.env)
    if ok then
     (do let _ <- call (.builtin "list.append") [.ref D,<- eval elt Y.env])
    again (.compLoop (.ListComp elt [g0,⟨tg,iter,ifs,0⟩] scope cpos) 1 (.ref it) (.ref D) Y.env)):=by rfl
 rw[e];refine wpAny_bind (wpAny_standAt (wpAny_bind (thn h λr s1 h1=>?_)));cases r with
 |none=>exact Qj h1
 |some v=>
  refine wpAny_bind (thn h1 λ_ s2 h2=>?_);refine wpAny_bind (wpAny_mono h2 (λ_ s4 h4=>wpAny_bind (wpAny_mono h4 (λok s5 h5=>?_) λ_ _ f=>f.elim)) λ_ _ f=>f.elim);cases ok with
  |false=>exact Qj h5
  |true=>exact wpAny_bind (wpAny_bind (wpAny_mono h5 (λx s6 h6=>wpAny_bind (wpAny_mono h6 (λ_ s7 h7=>Qj (Qj h7)) λ_ _ f=>f.elim)) λ_ _ f=>f.elim))
def Qk9(Y:Cx)(e:QL)(iter:QL)(D:Addr):Act:=λQ s=>wpAny (model Y.prog Y.w) Y.A (eval iter Y.env) (λx s1=>wpAny (model Y.prog Y.w) Y.A (pyIter x)
 (λitv s2=>codeAny (model Y.prog Y.w) Y.A (.compStart e 1 itv (.ref D) Y.env) (λr s3=>match r with | .ok _=>Q s3 | .error _=>False) s2) (λ_ _=>False) s1) (λ_ _=>False) s
def Qt4(wi:TI)(g:TG)(tc:TT)(p:Addr)(te:TE):St->Hp->(Hp->Prop)->Prop:=λσ H k=>wi σ H λJ H1=>QiW J (bOf σ g tc (Qt5 p te)) k H1
theorem Qk3{Y:Cx}{σ:St}{elt tg iter:QL}{ifs:List QL}{g0:Qd6}{scope:ZK}{cpos:Pos}{D:Addr}{wi:TI}{g:TG}{tc:TT}{te:TE}(hx:Y.xe=λ_ _=>False)(hc:Y.calm=true)
  (hi:PI Y tg iter wi)(hg:PG Y tg g)(ht:PTs Y ifs tc)(he:PE Y elt te):BodyOk Y σ (Qk9 Y (.ListComp elt [g0,⟨tg,iter,ifs,0⟩] scope cpos) iter D) (Qt4 wi g tc D te σ):=by
 intro pins s H k Q I h hQ;have hx':∀(v:Value)(s':Shared),Y.xe v s'->False:=λv s' z=>by rw[hx] at z;exact z
 refine wpAny_mono (hi pins s σ H _ I h) (λv s1 h1=>wpAny_mono h1 (λitv s2 h2=>?_) hx') hx';obtain⟨it,fp,tn,J,H2,e,I2,T,st2,f2,hW⟩:=h2;subst e;have loop:codeAny (model Y.prog Y.w) Y.A (.compLoop (.ListComp elt [g0,⟨tg,iter,ifs,0⟩] scope cpos) 1 (.ref it) (.ref D) Y.env) (λr s3=>match r with | .ok _=>Q s3 | .error _=>False) s2:=
  QaG (Y:=Y) (gens:=[g0,⟨tg,iter,ifs,0⟩]) (d:=1) hc T st2 f2 (λQ E s h=>QiO Q E s h) (λx u r=>Qda hx hg ht (λσ4=>QcD hx he) x u r) I2 hW λs' H' I' q=>hQ s' H' I' q
 exact Qe4 loop (T.self _ 0 _ _ _ st2 loop)
theorem Qhy{Y:Cx}{elt tg iter tg2 iter2:QL}{ifs ifs2:List QL}{scope:ZK}{cpos:Pos}{it D:Addr}(hs:∀x,foldedSetIterable iter2 Y.env x=pure x)(Q:PySem.Fin->Shared->Prop)(E:Value->Shared->Prop)(s:Shared)
  (h:wpAny (model Y.prog Y.w) Y.A (pyNext (.ref it)) (λr s1=>match r with
   |none=>Q (.done .next) s1
   |some v=>wpAny (model Y.prog Y.w) Y.A (letOwnedTupleGo tg (.ref it) v) (λ_ s2=>Qnn Y tg ifs (Qk9 Y (.ListComp elt [⟨tg,iter,ifs,0⟩,⟨tg2,iter2,ifs2,0⟩] scope cpos) iter2 D) v (λs3=>Q (.again (.compLoop (.ListComp elt [⟨tg,iter,ifs,0⟩,⟨tg2,iter2,ifs2,0⟩] scope cpos) 0 (.ref it) (.ref D) Y.env)) s3) s2) E s1) E s) :
  wpAny (model Y.prog Y.w) Y.A (compTurn (.ListComp elt [⟨tg,iter,ifs,0⟩,⟨tg2,iter2,ifs2,0⟩] scope cpos) 0 (.ref it) (.ref D) Y.env) Q E s:=by
 have e:compTurn (.ListComp elt [⟨tg,iter,ifs,0⟩,⟨tg2,iter2,ifs2,0⟩] scope cpos) 0 (.ref it) (.ref D) Y.env=(do
   standAt iter.pos
   match <- pyNext (.ref it) with
   |none=>pure (.done .next)
   |some v=>
    letOwnedTupleGo tg (.ref it) v
    assign tg Y.env v
    let mut ok:=true
    for c in ifs do
     if ok then ok <- isTrue c Y.env (eval c Y.env)
    if ok then
     let x <- eval iter2 Y.env
     standAt iter2.pos
     let x <- foldedSetIterable iter2 Y.env x
     let _ <- runOwn (.compStart (.ListComp elt [⟨tg,iter,ifs,0⟩,⟨tg2,iter2,ifs2,0⟩] scope cpos) 1 (<- holding [x] (pyIter x)) (.ref D) Y.env) Y.env
    again (.compLoop (.ListComp elt [⟨tg,iter,ifs,0⟩,⟨tg2,iter2,ifs2,0⟩] scope cpos) 0 (.ref it) (.ref D) Y.env)):=by rfl
 rw[e];refine wpAny_bind (wpAny_standAt (wpAny_bind (thn h λr s1 h1=>?_)));cases r with
 |none=>exact Qj h1
 |some v=>
  refine wpAny_bind (thn h1 λ_ s2 h2=>?_);refine wpAny_bind (wpAny_mono h2 (λ_ s4 h4=>wpAny_bind (wpAny_mono h4 (λok s5 h5=>?_) λ_ _ f=>f.elim)) λ_ _ f=>f.elim);cases ok with
  |false=>exact Qj h5
  |true=>
   refine wpAny_bind (wpAny_mono h5 (λx s6 h6=>wpAny_bind (wpAny_standAt ?_)) λ_ _ f=>f.elim);rw[hs x];refine wpAny_bind (Qj (wpAny_bind (JN (wpAny_mono h6 (λitv s7 h7=>?_) λ_ _ f=>f.elim))));refine wpAny_bind (wpAny_runOwn (h:=none) (YT h7 λr s8 h8=>?_));cases r with
   |error z=>exact h8.elim
   |ok fl=>exact Qj h8
def QnB(cap:List (Option Nat))(wi:TI)(g:TG)(tc:TT)(wi2:TI)(g2:TG)(tc2:TT)(te:TE):TE:=λσ H Q=>wi σ H λJ H1=>∀p,H1 p=none->QiW J (bOf (Qb9 cap σ) g tc (Qt4 wi2 g2 tc2 p te)) (Q (.ref p)) (upd H1 p (.lst []))
end L2
namespace Rk
open L2 Rd
def pairD(ij:Int×Int):PyData:=.tuple [.int ij.1,.int ij.2]
theorem Qh4(b:Int×Int):Yu (pairD b)=1:=by
 unfold pairD;simp[Yu,JQ]
end Rk
namespace Rr
section
variable{prog:QD}{w:Je}{A:Q5}{E:Value->Shared->Prop}{s:Shared}
end
end Rr
namespace L2
section
variable{X:Cx}
end
end L2
namespace Rs
open PySem.W
def sp{α:Type}(n:Nat)(c:Nat->Nat->Bool):KasT α->(α->Prop)->Prop
 |.ret a,Q=>Q a
 |.ask i j f,Q=>i<n/\j<n/\sp n c (f (c i j)) Q
section
variable{n:Nat}{K:Nat->Int}
structure Good (n:Nat) (p:Array Nat):Prop where
 perm:p.toList.Perm (Q9 n)
theorem Good.size{p:Array Nat}(g:Good n p):p.size=n:=by
 have:=g.perm.length_eq;rw[Ja,ZH] at this;exact this
def at_(p:Array Nat)(i:Nat):Nat:=p.getD i 0
theorem Qk6{p:Array Nat}{i:Nat}(h:i<p.size):p[i]? = some (at_ p i):=by
 unfold at_;rw[Qd8,Qad h];rfl
theorem Good.lt{p:Array Nat}(g:Good n p)(h0:0<n)(i:Nat):at_ p i<n:=by
 by_cases h:i<p.size
 ·have e:=Qk6 h;have m:at_ p i∈p.toList:=by
   have:=Array.mem_of_getElem? e;exact Qis.mpr this
  exact JI.mp (g.perm.mem_iff.mp m)
 ·unfold at_;rw[Qd8,Array.getElem?_eq_none (by omega)];exact h0
theorem Good.inj{p:Array Nat}(g:Good n p){i j:Nat}(hi:i<n)(hj:j<n)(e:at_ p i=at_ p j):i=j:=by
 have nd:p.toList.Nodup:=g.perm.nodup_iff.mpr List.nodup_range;have hs:=g.size;have hi':i<p.toList.length:=by rw[ZH];omega
 have hj':j<p.toList.length:=by rw[ZH];omega
 have ei:p.toList[i]=at_ p i:=by
  have:=Qk6 (p:=p) (i:=i) (by omega);rw[Qad (by omega)] at this;rw[Qit];exact Qq this
 have ej:p.toList[j]=at_ p j:=by
  have:=Qk6 (p:=p) (i:=j) (by omega);rw[Qad (by omega)] at this;rw[Qit];exact Qq this
 have pw:=List.pairwise_iff_getElem.mp nd;rcases Nat.lt_trichotomy i j with h | h | h
 ·exact absurd (ei.trans (e.trans ej.symm)) (pw i j hi' hj' h)
 ·exact h
 ·exact absurd (ej.trans (e.symm.trans ei.symm)) (pw j i hj' hi' h)
def kk(K:Nat->Int)(p:Array Nat)(i:Nat):Int:=K (at_ p i)
end
end Rs
namespace Rs
open PySem.W PySem.Calls
section
variable{prog:QD}{w:Je}{A:Q5}{E:Value->Shared->Prop}{s:Shared}
theorem Qch{Q:Value->Shared->Prop}{l:Addr}{T:String}{o:Obj}{vs:List Value}{n:Nat}(hT:T = "list" ∨ T = "tuple")(ho:s.heap.get? l=some o)(hc:o.cls=.type T)(hd:o.data=.seq vs.toArray n)(h64:vs.length<64)
  (h:∀h':JM,(∀b x,s.heap.get? b=some x->h'.get? b=some x)->∀(P:PySem.Fin->Shared->Prop)(E':Value->Shared->Prop),(∀s2,Q (.ref h'.objs.size) s2->P (.done (.ret .none)) s2) ->
   wpAny (model prog w) A.in1.in1 (Qbl.«list.sort» ⟨[.ref h'.objs.size],[]⟩) P E' { s with heap:=h'.push (seqObj "list" vs.toArray 0) }) :
  wpAny (model prog w) A (call (.builtin "sorted") [.ref l]) Q E s:=by
 refine Calls.call_function_entry kind_sorted plain_sorted entry_sorted (args_sorted1 _) ?_
 unfold Qbl.«sorted»;refine wpAny_bind (m:=checkCount "sorted" 1 1 _) (Qj ?_);refine wpAny_bind (wpAny_collect_seq (items:=vs.toArray) l hT ho hc hd (λh' kp=>?_) (by rw[Qo,Qhn];omega));refine wpAny_bind (wpAny_newList ?_ (by rw[List.toList_toArray,Qhn];omega));have hoL:(h'.push (seqObj "list" vs.toArray 0)).get? h'.objs.size=some (seqObj "list" vs.toArray 0):=Qp _ rfl;show wpAny _ _ _ _ _ { s with heap:=h'.push (seqObj "list" vs.toArray 0) };refine wpAny_bind (JN (ZY slot_list_sort ⟨_,hoL,rfl⟩ entry_list_sort ?body (args_list_sort _)));exact h h' kp _ _ λs2 hq=>⟨_,rfl,Qj ⟨_,rfl,hq⟩⟩
end
structure Qua (h:JM) (v:Value) (ij:Int×Int):Prop where
 it:∃(a:Addr)(o:Obj)(n:Nat)(t u:Tok),v=.ref a/\h.get? a=some o/\o.cls=.type "tuple" /\ o.data=.seq #[.int ij.1 t,.int ij.2 u] n
inductive PairsV (h:JM):List Value->List (Int×Int)->Prop
 |nil:PairsV h [] []
 |cons {v:Value} {vs:List Value} {ij:Int×Int} {L:List (Int×Int)}:Qua h v ij->PairsV h vs L->PairsV h (v::vs) (ij::L)
theorem PairsV.at_{h:JM}:∀{vs:List Value}{L:List (Int×Int)},PairsV h vs L->∀i,i<vs.length->Qua h (vs.getD i Ye) (L.getD i (0,0))
 |_,_,.nil,i,hi=>by simp at hi
 |_,_,.cons q r,0,hi=>q
 |_,_,.cons q r,i+1,hi=>by
  have:=r.at_ i (by simpa using hi)
  simpa using this
section
variable{prog:QD}{w:Je}{A:Q5}{E:Value->Shared->Prop}{s:Shared}
end
end Rs
namespace L2
open _root_.Rd _root_.Rk _root_.Rs
section
variable{X:Cx}
theorem Qew:∀{ns:List Int}{vs:List Value},Vals (ns.map V.int) vs->Qbj vs ns
 |[],_,.nil=>.nil
 |i::ns,_,.cons ⟨t,e⟩ r=>by subst e;exact .cons _ _ (Qew r)
theorem QeI:∀{ns:List Int}{vs:List Value},Qbj vs ns->Vals (ns.map V.int) vs
 |_,_,.nil=>.nil
 |_,_,.cons n t r=>.cons ⟨t,rfl⟩ (QeI r)
def QnH(K:PySem.W.Frag):List V->Hp->VK->Prop:=λxs H Q=>∃l ns,xs=[.ref l]/\SqT K H l ((ns:List Int).map V.int)/\ns.length<64 /\
 ∀t ms H2,Same H H2->H t=none->H2 t=some (.lst ((ms:List Int).map V.int))->ms.Perm ns->ms.Pairwise (·<=·)->Q (.ref t) H2
theorem Qh8:CallR X (.builtin "sorted") (QnH X.K):=by
 intro pins s σ H xs us Q I r h;obtain⟨l,ns,rfl,hl,h64,q⟩:=h;obtain⟨u,rfl,ru⟩:=vals1 r;cases ru;obtain⟨its,rv,tp,hz⟩:=I.tuple hl;obtain⟨o,ho,hc,n,hd⟩:=tp;have li:=rv.length;rw[Qg] at li;refine Qch (.inr rfl) ho hc hd (by omega) λh' kp P E' hP=>?_
 have hn:(h'.push (seqObj "list" its.toArray 0)).get? h'.objs.size=some (seqObj "list" its.toArray 0):=Qp _ rfl;refine list_sort_tree (s:={ s with heap:=h'.push (seqObj "list" its.toArray 0) }) hn (Qew rv) (by omega) λout ns' ia pm pw=>hP _ ?_
 have I1:Inv X pins σ H { s with heap:=h' }:=I.kept (t':=s.toks) kp;have hf:H h'.objs.size=none:=I1.hok.fresh (Ql _);obtain⟨e,he⟩:∃e,(sortedHeap (h'.push (seqObj "list" its.toArray 0)) h'.objs.size its out).get? h'.objs.size=some (seqObj "list" out e):=sortedHeap_at hn
 have rv':=QeI ia;have lp:=pm.length_eq;have I2:Inv X pins σ (upd H h'.objs.size (.lst (ns'.map V.int))) { s with heap:=sortedHeap (h'.push (seqObj "list" its.toArray 0)) h'.objs.size its out }:=
  I1.laid (t':=s.toks) (λb x e'=>(sortedHeap_old (Qs (Qi e')) (Qt (Qi e') (by rw[size_push'];exact Nat.le_succ _))).trans (Qd _ e')) (Ql _) (show ObjOk X.prog X.w _ _ _ (.lst _) from⟨by rw[Qg];exact Ze (Rk.Qa7 (by omega)),out.toList,e,rv',by rw[he]⟩)
 exact⟨.ref h'.objs.size,_,I2,rfl,q _ ns' _ (Jk hf) hf Jc pm pw⟩
end
end L2
namespace Re
open AutoSeq1 (wpAny_loadPart')
theorem Qn4{prog:QD}{w:Je}{A:Q5}{it t:Addr}{items:Array Value}(hh:A.handled=none)(hti:t≠it) :
  Draws prog w A it [it,t] items.size (λi x=>items[i]? = some x) (λi h=>h.IsTupleIter it t i/\h.IsTuple t items) where
 live:=λi h st=>by
  obtain⟨⟨o,ho,_⟩,_⟩:=st;exact⟨o,ho⟩
 frame:=λi h h' st k=>by
  obtain⟨⟨o,ho,c⟩,⟨o2,h2,c2⟩⟩:=st;exact⟨⟨o,k it (by simp) _ ho,c⟩,⟨o2,k t (by simp) _ h2,c2⟩⟩
 item:=λi s Q E hi st hQ=>by
  refine Rz.QcA st.1 st.2 (x:=items[i]) (by simp[hi]) λh' hit' hs'=>?_
  refine hQ _ h' s.toks (by simp[hi]) ⟨hit',?_⟩ hs';obtain⟨o2,h2,c2⟩:=st.2;exact⟨o2,(hs'.2 t hti).trans h2,c2⟩
 done:=λs Q E st hE=>Rz.Qgd hh st.1 st.2 (by simp) hE
theorem QhT(l:Addr)(items:Array Value)(n:Nat)(dct:Option Addr)(sl:Array (Option Value)) :
  Meets (Qbl.«enumerate.__new__» ⟨[.type "enumerate",.ref l],[]⟩) (λ_ R s=>s.heap.get? l=some { cls:=.type "tuple",dict:=dct,data:=.seq items n,slots:=sl } /\
   R (.ok (.ret (.ref (s.heap.push { cls:=.type "tuple_iterator",data:=.fields #[.ref l,.int 0 0] }).objs.size)))
    { s with heap:=(s.heap.push { cls:=.type "tuple_iterator",data:=.fields #[.ref l,.int 0 0] }).push { cls:=.type "enumerate",data:=.fields #[.none,.bool false,.ref s.heap.objs.size,rawInt 0,.none,.none] } }):=
 .of_wp λprog w A R s h=>by
  obtain⟨hp,g,d,tk,os⟩:=s;obtain⟨hl,h⟩:=h;have hsub:=sub_enumerate;have hL:Qiq (Qii ⟨hp,g,d,tk,os⟩) l items:=⟨_,hl,rfl,n,rfl⟩
  wp_walk using Zp hl
  refine wpAny_stack_any λst=>Qj ?_
  split
  ·rename_i c _ _ _ _ _
   cases(c == QcG "enumerate")
   ·wp_walk using Zp hl,Zz hL
    exact⟨_,rfl,h⟩
   ·wp_walk using Zp hl,Zz hL
    exact⟨_,rfl,h⟩
  ·wp_walk using Zp hl,Zz hL
   exact⟨_,rfl,h⟩
theorem Qia{prog:QD}{w:Je}{A:Q5}{E:Value->Shared->Prop}{s:Shared}{l:Addr}{items:Array Value}{Q:Value->Shared->Prop}(hL:s.heap.IsTuple l items)
  (h:∀h',IsEnum h' (s.heap.objs.size+1) s.heap.objs.size 0 .none->h'.IsTupleIter s.heap.objs.size l 0->(∀b o,s.heap.get? b=some o->h'.get? b=some o)->Q (.ref (s.heap.objs.size+1)) { s with heap:=h' }) :
  wpAny (model prog w) A (call (.type "enumerate") [.ref l]) Q E s:=by
 obtain⟨⟨c,dct,dt,sl⟩,hl,hc,n,hd⟩:=hL
 replace hc:c=.type "tuple" := hc
 replace hd:dt=.seq items n:=hd
 subst hc hd;refine callType_new F.called_enumerate (by decide) (F.typeCall_enumerate_1 _) (F.newCall_enumerate_1 _) (λobj=>F.args_object_init_2 obj _) F.entry_enumerate_new (QhT l items n dct sl) ⟨hl,?_⟩;have hz:(s.heap.push { cls:=.type "tuple_iterator",data:=.fields #[.ref l,.int 0 0] }).objs.size=s.heap.objs.size+1:=Zd ..;show _/\_;rw[hz];have he:=Qp (s.heap.push { cls:=.type "tuple_iterator",data:=.fields #[.ref l,.int 0 0] }) (o:={ cls:=.type "enumerate",data:=.fields #[.none,.bool false,.ref s.heap.objs.size,rawInt 0,.none,.none] }) rfl;rw[hz] at he;exact⟨⟨_,he,rfl⟩,h _ he ⟨_,Qd _ (Qp _ rfl),rfl,rfl⟩ λb o x=>Qd _ (Qd _ x)⟩
end Re
namespace L2
def Iet(l:Addr):It:=
 ⟨λi H=>∃xs x,H l=some (.tup xs)/\xs[i]? = some x,
  λi H v H'=>∃p x,H p=none/\(∀xs,H l=some (.tup xs)->xs[i]? = some x)/\v=.ref p/\H'=upd H p (.tup [.int (i:Nat),x]),
  λi H=>∃xs,H l=some (.tup xs)/\xs.length=i⟩
theorem Qhz{P:QD}{w:Je}{K:PySem.W.Frag}{elts:List QL}{x1}{tpos:Pos}{e it l:Addr}(hne:e≠it) :
  Turn P w K (.Tuple elts x1 tpos) (Iet l) [e,it] e (λi h=>(∃old,IsEnum h e it (i:Nat) old)/\h.IsTupleIter it l i) where
 mem:=by simp
 obj:=λi h st b hb=>by
  obtain⟨⟨old,a1⟩,⟨o2,a2,_,d2⟩⟩:=st;simp only[Qx,QZ,or_false] at hb;rcases hb with rfl | rfl
  ·exact⟨_,a1,λv q=>nomatch q⟩
  ·exact⟨_,a2,λv q=>by rw[d2] at q;cases q⟩
 keep:=λi h h' st k=>by
  obtain⟨⟨old,a1⟩,⟨o2,a2,c2⟩⟩:=st;exact⟨⟨old,k e (by simp) _ a1⟩,o2,k it (by simp) _ a2,c2⟩
 item:=by
  intro X hP hw hK hc i pins s σ H E I hf st hg;subst hP hw hK;obtain⟨xs,x,h1,hx⟩:=hg;obtain⟨⟨old,a1⟩,a2⟩:=st;obtain⟨its,r1,p1,_⟩:=I.tuple (SqT.of h1);obtain⟨u,hu,ru⟩:=r1.get hx;have nel:e≠l:=λz=>by have q:=(hf e (by simp)).1;rw[z,h1] at q;cases q
  have nil:l≠it:=λz=>by have q:=(hf it (by simp)).1;rw[<- z,h1] at q;cases q
  have hi:i<its.toArray.size:=by
   have:=(Qw.mp hu).1
   simpa using this
  refine wpAny_pyNext_enum_itemD (Re.Qn4 (A:=X.A.in1) (t:=l) (I.ok.hd hc) nil) a1 ⟨a2,p1⟩ hi hne (by simp[hne,nel]) λy h' tk hy o' l' tp sz kp=>?_
  have ey:y=u:=by
   have e1:its.toArray[i]? = some u:=by simpa using hu
   rw[e1] at hy;exact(Qq hy).symm
  subst ey;obtain⟨l',tq⟩:=l';have fr:H s.heap.objs.size=none:=I.hok.fresh (Ql _);have n1:e≠s.heap.objs.size:=Qs (Qi a1);have n2:it≠s.heap.objs.size:=by
   obtain⟨o2,a2,_⟩:=a2;exact Qs (Qi a2)
  refine⟨_,rfl,Qig o' λh2 e2 s2=>?_⟩;have I1:Inv X pins σ (upd H s.heap.objs.size (.tup [.int (i:Nat),x])) { s with heap:=h2,toks:=tk+1 }:=by
   refine I.turnedNew (ch:=[e,it]) hf (λb v hb q=>?_) (Ql _) ⟨by show 2<=sizeLine;decide,[.int (i:Nat) tk,y],.cons ⟨_,rfl⟩ (.cons ru .nil),?_⟩
   ·simp only[Qx,QZ,or_false,not_or] at hb;exact s2.extBut _ _ hb.1 (kp b v hb.1 hb.2 q)
   ·exact⟨_,s2.extBut _ _ n1.symm tp,rfl,rfl,0,rfl⟩
  refine⟨.ref s.heap.objs.size,_,I1,rfl,⟨_,x,fr,λxs' q=>?_,rfl,rfl⟩,⟨⟨y,e2⟩,?_⟩,λb hb=>?_⟩
  ·rw[h1] at q;cases q;exact hx
  ·exact l'.extBut s2.extBut hne.symm
  ·simp only[Qx,QZ,or_false] at hb;rcases hb with rfl | rfl
   ·rw[Jb n1];exact(hf _ (by simp)).1
   ·rw[Jb n2];exact(hf _ (by simp)).1
 done:=by
  intro X hP hw hK hc i pins s σ H E I hf st hg;subst hP hw hK;obtain⟨xs,h1,he⟩:=hg;obtain⟨⟨old,a1⟩,a2⟩:=st;obtain⟨its,r1,p1,_⟩:=I.tuple (SqT.of h1);have l1:=r1.length;have nel:e≠l:=λz=>by have q:=(hf e (by simp)).1;rw[z,h1] at q;cases q
  have nil:l≠it:=λz=>by have q:=(hf it (by simp)).1;rw[<- z,h1] at q;cases q
  have e0:its.toArray.size=i:=by rw[Qo];omega
  have D:=Re.Qn4 (prog:=X.prog) (w:=X.w) (A:=X.A.in1) (t:=l) (items:=its.toArray) (I.ok.hd hc) nil;rw[e0] at D;refine wpAny_pyNext_enum_endD D a1 ⟨a2,p1⟩ λh' kp=>⟨rfl,I.turnedAll (t':=s.toks) (ch:=[e,it]) hf λb v hb q=>?_⟩
  simp only[Qx,QZ,or_false,not_or] at hb;exact kp b v hb.2 q
 self:=λ_ _ _ _ _ st h=>by
  obtain⟨⟨old,a1⟩,_⟩:=st;exact Qa2 a1 h
def QtE(ta:TA):TI:=λσ H R=>ta σ H λvs H1=>∃l xs,vs=[.ref l]/\H1 l=some (.tup xs)/\R (Iet l) H1
section
variable{X:Cx}
theorem Ql4{a:QL}{elts:List QL}{x1}{tpos:Pos}{ta:TA}{p pos:Pos}(hg:Gl X "enumerate")(hm:X.mg "enumerate" = none)(ha:PA X [a] ta)(hs:starEach [a] X.env=[(false,eval a X.env)]:=by rfl) :
  PI X (.Tuple elts x1 tpos) (.Call (.Name "enumerate" p) [a] [] pos) (QtE ta):=by
 intro pins s σ H R I h;refine Call_ (Qbx I hg hm QfA (JL (thn (ha pos pins s σ H _ I h) λus s1 ⟨vs,H1,I1,r1,q1⟩=>?_) hs rfl));obtain⟨l,xs,e,h1,q⟩:=q1;subst e;obtain⟨u,rfl,ru⟩:=vals1 r1;cases(show u=JG l from ru);obtain⟨its,w1,p1,_⟩:=I1.tuple (SqT.of h1);refine Re.Qia p1 λh' e1 i1 kp=>?_
 refine Qa2 (s:={ s1 with heap:=h' }) e1 ?_
 refine⟨s1.heap.objs.size+1,_,_,_,H1,rfl,I1.kept (t':=s1.toks) kp,Qhz (by show ¬(s1.heap.objs.size+1=s1.heap.objs.size);omega),⟨⟨_,e1⟩,i1⟩,λb hb=>?_,q⟩;have hb':s1.heap.objs.size<=b:=by
  simp only[Qx,QZ,or_false] at hb;rcases hb with rfl | rfl<;>omega
 exact I1.fpOk hb' (I1.hok.fresh hb')
end
end L2
namespace Rk
open L2
end Rk
namespace L2
section
variable{X:Cx}{pins:List (Addr×Obj)}{σ:St}{H:Hp}
theorem QaS{M:List Str}{scope:ZK}{fp:List Addr}{σ':St}{H3:Hp}{s3 s':Shared}{D:Addr}{i:Nat}{y:Str}{py:Pos}{Mo:QiG}{A:Q5}{E:Value->Shared->Prop}{Q:Value->Shared->Prop}
  (I3:Inv X pins σ H3 s3)(f3:∀b∈fp,FpOk X pins H3 b)(J:Inv (blk X M scope (Qap X.env scope.names []) fp s3 H3 s3.heap.objs.size) [] σ' H s')
  (hN:X.N.Nodup)(hi:X.N[i]? = some y)(hl:X.env.scope.names.lookup y=some .local)(hq:∀s2,Inv X pins (σ.set i (some (.ref D))) H s2->Q .none s2) :
  wpAny Mo A (assign (.Name y py) X.env (.ref D)) (λ_ s2=>∃m,s2.heap.Ns s3.heap.objs.size m/\∀h',Qac s3.heap.objs.size s2.heap h'->Q .none { s2 with heap:=h' }) E s':=by
 have J0:Inv X pins σ H s':=Qgu I3 f3 J (Heap.SameBut.refl ..);obtain⟨m,hn,_⟩:=J.loc;have hC:H s3.heap.objs.size=none:=J.free;have lt:X.env.locals<s3.heap.objs.size:=I3.lt;refine QuG (Qe3 J0 hN hi (Q0 hl) (show RelV (.ref D) (.ref D) from rfl) (λs2 J2 ⟨a,sb,ha⟩=>?_) (.inr hl));have ea:a=X.env.locals∨X.env.cells.lookup y=some a:=ha;have na:s3.heap.objs.size≠a:=by
  rcases ea with z | z
  ·rw[z];exact Qbi lt
  ·obtain⟨v,o,ho,_⟩:=I3.cell y a z;exact Qbi (Qi ho)
 refine⟨m,hn.sameBut sb na,λh' hs=>hq _ ?_⟩;refine J2.turned (t':=s2.toks) (it:=s3.heap.objs.size) (λb o hb e=>hs.extBut b o hb e) hC (Qbi lt) (.inr I3.sz) (λx c e z=>?_) λp hp z=>?_
 ·obtain⟨v,o,ho,_⟩:=I3.cell x c e;exact absurd (z ▸ Qi ho) (ZL _)
 ·have e:=(I3.pin p hp).1;exact absurd (z ▸ Qi e) (ZL _)
end
theorem Ql1{X:Cx}{M:List Str}{cap:List (Option Nat)}{elt tg iter:QL}{ifs:List QL}{scope:ZK}{pos:Pos}{wi:TI}{g:TG}{tc:TT}{te:TE}{i:Nat}{y:Str}{py spos:Pos}(hN:X.N.Nodup)(hiy:X.N[i]? = some y)(hly:X.env.scope.names.lookup y=some .local)(hc:X.calm=true)(ok:Qca X.N X.env.scope M scope cap=true)
  (hi:PI X tg iter wi)(hb:∀cl ex s3 H3 C,PG (blk X M scope cl ex s3 H3 C) tg g/\PTs (blk X M scope cl ex s3 H3 C) ifs tc/\PE (blk X M scope cl ex s3 H3 C) elt te)
  (hs:∀x,foldedSetIterable iter X.env x=pure x:=by intro _;rfl)(hsw:swapsWith (.ListComp elt [⟨tg,iter,ifs,0⟩] scope pos) (some (.Name y py)) spos.line X.env=pure true:=by rfl):PS X (.Assign [.Name y py] (.ListComp elt [⟨tg,iter,ifs,0⟩] scope pos) spos) (QnC (tComp cap wi g tc te) (Qex i)):=by
 intro pins s σ H D I h;have c:=CapOk.of ok;rw[Qoh _ _ _ _ hsw];refine wpAny_bind (wpAny_standAt (wpAny_bind ?_));show wpAny _ X.A (do let _ <- comprehension (.ListComp elt [⟨tg,iter,ifs,0⟩] scope pos) scope X.env _ (newList []) false (eval iter X.env) (some (assign (.Name y py) X.env))) _ _ s;refine wpAny_bind (wpAny_mono (Yn (use:=some (assign (.Name y py) X.env)) (Q:=λ_ s'=>SP X pins D .next s') rfl hs (QeD (I.ok.cells c)) c.kind c.loc ?_) (λ_ s' hq=>Qj (Qj hq)) λ_ _ e=>e);refine thn (hi pins s σ H _ I h) λv s1 h1=>thn h1 λitv s2 h2=>?_
 obtain⟨it,fp,tn,J,H2,e,I2,T,st2,f2,hW⟩:=h2;subst e;refine JD (Yf c.cell (by intro y hy;simp at hy) (λh₁ hns₁ hsb₁=>?_) c.kind);have I3:Inv X pins σ (upd H2 s2.heap.objs.size (.lst [])) { s2 with heap:=s2.heap.push { cls:=.type "list",data:=.seq ([]:List Value).toArray } }:=I2.lnew (t':=s2.toks) (ys:=[]) .nil (Jx _);have lt2:∀b∈fp,b<s2.heap.objs.size:=λb hb=>by obtain⟨o,e,_⟩:=T.obj _ _ st2 b hb;exact Qi e
 have f3:∀b∈fp,FpOk X pins (upd H2 s2.heap.objs.size (.lst [])) b:=λb hb=>(f2 b hb).upd (Qs (lt2 b hb))
 generalize hs3:({ s2 with heap:=s2.heap.push { cls:=.type "list",data:=.seq ([]:List Value).toArray } }:Shared)=s3 at I3;have e3:s3.heap=s2.heap.push { cls:=.type "list",data:=.seq ([]:List Value).toArray }:=by rw[<- hs3]
 have z3:s3.heap.objs.size=s2.heap.objs.size+1:=by rw[e3,Zd]
 have hk:∀b o,s3.heap.get? b=some o->h₁.get? b=some o:=λb o e=>hsb₁.extBut b o (by
  have:=Qi e;rw[e3] at this;exact Qs this) (Qd _ (e3 ▸ e))
 have hn₁:h₁.Ns s3.heap.objs.size λ_=>none:=by rw[e3];exact hns₁
 have B:=QbB (t4:=s3.toks+([]:List (Str×Value)).length) (fp:=fp) I3 c f3 (λb hb=>by rw[z3];exact Yy (lt2 b hb)) hn₁ hk;have st4:tn 0 h₁:=T.keep _ _ _ st2 λb hb o e=>hk b o (by rw[e3];exact Qd _ e)
 have fp4:∀b∈fp,FpOk (blk X M scope (Qap X.env scope.names []) fp s3 (upd H2 s2.heap.objs.size (.lst [])) s3.heap.objs.size) [] (upd H2 s2.heap.objs.size (.lst [])) b:=λb hb=>by
  refine⟨(f3 b hb).1,(B.ok.exf b hb).1,B.ok.exfs b hb,.inl hb,(B.ok.exf b hb).2,λp hp=>(nomatch hp)⟩
 obtain⟨hg,ht,he⟩:=hb (Qap X.env scope.names []) fp s3 (upd H2 s2.heap.objs.size (.lst [])) s3.heap.objs.size;have loop:codeAny (model X.prog X.w) X.A (.compLoop (.ListComp elt [⟨tg,iter,ifs,0⟩] scope pos) 0 (.ref it) (.ref s2.heap.objs.size) (compEnvC scope (Qap X.env scope.names []) s3.heap.objs.size X.env))
   (compPost (model X.prog X.w) X.A X.xe (some (assign (.Name y py) X.env)) (λ_ s'=>SP X pins D .next s') (.ref s2.heap.objs.size) s3.heap.objs.size) { s3 with heap:=h₁,toks:=s3.toks+([]:List (Str×Value)).length }:=by
  refine QaG (Y:=blk X M scope (Qap X.env scope.names []) fp s3 (upd H2 s2.heap.objs.size (.lst [])) s3.heap.objs.size) (gens:=[⟨tg,iter,ifs,0⟩]) (d:=0) hc T st4 fp4
   (λQ E s h=>Qeb Q E s h) (λx u r=>Qda rfl hg ht (λσ4=>QcD rfl he) x u r) B (hW _ (I2.hok.fresh (Ql _))) λs' H' I' q=>?_
  exact QaS (Q:=λ_ s'=>SP X pins D .next s') I3 f3 I' hN hiy hly λs2' J2=>⟨_,H',J2,q⟩
 exact YF loop (T.self _ 0 _ _ _ st4 loop)
theorem Qe8{X:Cx}{M:List Str}{cap:List (Option Nat)}{elt tg iter tg2 iter2:QL}{ifs ifs2:List QL}{scope:ZK}{pos:Pos}{wi wi2:TI}{g g2:TG}{tc tc2:TT}{te:TE}{i:Nat}{y:Str}{py spos:Pos}(hN:X.N.Nodup)(hiy:X.N[i]? = some y)(hly:X.env.scope.names.lookup y=some .local)(hc:X.calm=true)(ok:Qca X.N X.env.scope M scope cap=true)
  (hi:PI X tg iter wi)(hb:∀cl ex s3 H3 C,PG (blk X M scope cl ex s3 H3 C) tg g/\PTs (blk X M scope cl ex s3 H3 C) ifs tc/\PI (blk X M scope cl ex s3 H3 C) tg2 iter2 wi2/\PG (blk X M scope cl ex s3 H3 C) tg2 g2/\PTs (blk X M scope cl ex s3 H3 C) ifs2 tc2/\PE (blk X M scope cl ex s3 H3 C) elt te)
  (hs:∀x,foldedSetIterable iter X.env x=pure x:=by intro _;rfl)(hs2:∀env x,foldedSetIterable iter2 env x=pure x:=by intro _ _;rfl)(hsw:swapsWith (.ListComp elt [⟨tg,iter,ifs,0⟩,⟨tg2,iter2,ifs2,0⟩] scope pos) (some (.Name y py)) spos.line X.env=pure true:=by rfl):PS X (.Assign [.Name y py] (.ListComp elt [⟨tg,iter,ifs,0⟩,⟨tg2,iter2,ifs2,0⟩] scope pos) spos) (QnC (QnB cap wi g tc wi2 g2 tc2 te) (Qex i)):=by
 intro pins s σ H D I h;have c:=CapOk.of ok;rw[Qoh _ _ _ _ hsw];refine wpAny_bind (wpAny_standAt (wpAny_bind ?_));show wpAny _ X.A (do let _ <- comprehension (.ListComp elt [⟨tg,iter,ifs,0⟩,⟨tg2,iter2,ifs2,0⟩] scope pos) scope X.env _ (newList []) false (eval iter X.env) (some (assign (.Name y py) X.env))) _ _ s;refine wpAny_bind (wpAny_mono (Yn (use:=some (assign (.Name y py) X.env)) (Q:=λ_ s'=>SP X pins D .next s') rfl hs (QeD (I.ok.cells c)) c.kind c.loc ?_) (λ_ s' hq=>Qj (Qj hq)) λ_ _ e=>e);refine thn (hi pins s σ H _ I h) λv s1 h1=>thn h1 λitv s2 h2=>?_
 obtain⟨it,fp,tn,J,H2,e,I2,T,st2,f2,hW⟩:=h2;subst e;refine JD (Yf c.cell (by intro y hy;simp at hy) (λh₁ hns₁ hsb₁=>?_) c.kind);have I3:Inv X pins σ (upd H2 s2.heap.objs.size (.lst [])) { s2 with heap:=s2.heap.push { cls:=.type "list",data:=.seq ([]:List Value).toArray } }:=I2.lnew (t':=s2.toks) (ys:=[]) .nil (Jx _);have lt2:∀b∈fp,b<s2.heap.objs.size:=λb hb=>by obtain⟨o,e,_⟩:=T.obj _ _ st2 b hb;exact Qi e
 have f3:∀b∈fp,FpOk X pins (upd H2 s2.heap.objs.size (.lst [])) b:=λb hb=>(f2 b hb).upd (Qs (lt2 b hb))
 generalize hs3:({ s2 with heap:=s2.heap.push { cls:=.type "list",data:=.seq ([]:List Value).toArray } }:Shared)=s3 at I3;have e3:s3.heap=s2.heap.push { cls:=.type "list",data:=.seq ([]:List Value).toArray }:=by rw[<- hs3]
 have z3:s3.heap.objs.size=s2.heap.objs.size+1:=by rw[e3,Zd]
 have hk:∀b o,s3.heap.get? b=some o->h₁.get? b=some o:=λb o e=>hsb₁.extBut b o (by
  have:=Qi e;rw[e3] at this;exact Qs this) (Qd _ (e3 ▸ e))
 have hn₁:h₁.Ns s3.heap.objs.size λ_=>none:=by rw[e3];exact hns₁
 have B:=QbB (t4:=s3.toks+([]:List (Str×Value)).length) (fp:=fp) I3 c f3 (λb hb=>by rw[z3];exact Yy (lt2 b hb)) hn₁ hk;have st4:tn 0 h₁:=T.keep _ _ _ st2 λb hb o e=>hk b o (by rw[e3];exact Qd _ e)
 have fp4:∀b∈fp,FpOk (blk X M scope (Qap X.env scope.names []) fp s3 (upd H2 s2.heap.objs.size (.lst [])) s3.heap.objs.size) [] (upd H2 s2.heap.objs.size (.lst [])) b:=λb hb=>by
  refine⟨(f3 b hb).1,(B.ok.exf b hb).1,B.ok.exfs b hb,.inl hb,(B.ok.exf b hb).2,λp hp=>(nomatch hp)⟩
 obtain⟨hg,ht,hi2,hg2,ht2,he⟩:=hb (Qap X.env scope.names []) fp s3 (upd H2 s2.heap.objs.size (.lst [])) s3.heap.objs.size;have loop:codeAny (model X.prog X.w) X.A (.compLoop (.ListComp elt [⟨tg,iter,ifs,0⟩,⟨tg2,iter2,ifs2,0⟩] scope pos) 0 (.ref it) (.ref s2.heap.objs.size) (compEnvC scope (Qap X.env scope.names []) s3.heap.objs.size X.env))
   (compPost (model X.prog X.w) X.A X.xe (some (assign (.Name y py) X.env)) (λ_ s'=>SP X pins D .next s') (.ref s2.heap.objs.size) s3.heap.objs.size) { s3 with heap:=h₁,toks:=s3.toks+([]:List (Str×Value)).length }:=by
  refine QaG (Y:=blk X M scope (Qap X.env scope.names []) fp s3 (upd H2 s2.heap.objs.size (.lst [])) s3.heap.objs.size) (gens:=[⟨tg,iter,ifs,0⟩,⟨tg2,iter2,ifs2,0⟩]) (d:=0) hc T st4 fp4
   (λQ E s h=>Qhy (hs2 _) Q E s h) (λx u r=>Qda rfl hg ht (λσ4=>Qk3 rfl hc hi2 hg2 ht2 he) x u r) B (hW _ (I2.hok.fresh (Ql _))) λs' H' I' q=>?_
  exact QaS (Q:=λ_ s'=>SP X pins D .next s') I3 f3 I' hN hiy hly λs2' J2=>⟨_,H',J2,q⟩
 exact YF loop (T.self _ 0 _ _ _ st4 loop)
end L2
namespace Rk
open L2 _root_.Rd
section
variable{X:Cx}
def Qw8(X:Cx):R2:=λx y H Q=>∃dx dy,Dat H x dx/\Dat H y dy/\X.A.units+min dx.depth dy.depth<cLine/\Q (.bl (!Jo dx dy)) H
theorem Qs7:OpR X (compareOp .NotEq) (Qw8 X):=by
 intro pins s σ H x y v u Q I rx ry h;obtain⟨dx,dy,qx,qy,hu,q⟩:=h;obtain⟨⟨as,ra⟩,ca⟩:=ZP I.hok dx x v qx rx;obtain⟨⟨bs,rb⟩,cb⟩:=ZP I.hok dy y u qy ry;exact SeqAt.compareNe_reads ra rb ca cb hu ⟨.bl _,H,I,rfl,q⟩
end
end Rk
namespace Rk
open L2
theorem Qv4:bootBuiltins "ValueError" = some (.type "ValueError"):=by decide +kernel
def Qi1:List QL->Option (List Str)
 |[]=>some []
 |.Constant (.str x) _ _::es=>(Qi1 es).map (x::·)
 |_::_=>none
theorem QjH{X:Cx}:∀{es:List QL}{ws:List Str},Qi1 es=some ws->PA X es (λ_ H Q=>Q (ws.map V.str) H)
 |[],ws,h=>by cases h;exact Zu
 |e::es,ws,h=>by
  unfold Qi1 at h;split at h
  ·rename_i e2;cases e2
  ·rename_i e2
   cases e2;obtain⟨vs,hv,rfl⟩:=Jw.mp h;exact Qga (Qcq QgW (QjH hv)) λσ H Q q=>q
  ·cases h
def Qp9(x:Str):List QL->Option (List Str)
 |[]=>some []
 |.Call (.Name f _) [.Name y _,.Name n _] [] _::es=>if f = "isinstance" /\ y=x then(Qp9 x es).map (n::·) else none
 |_::_=>none
def Qw3(K:PySem.W.Frag)(cs:List Addr):TA:=λσ H Q=>∃(a C:Addr)(bs:List Bool),σ[0]? = some (some (.ref a))/\H a=some (Rx.exO a C)/\Rx.ExC K C/\ZQ (λc b=>PySem.W.kitOne K (.ref C) (.ref c)=some b) cs bs/\Q (bs.map V.bl) H
theorem QdH{X:Cx}{x:Str}(hN:X.N[0]? = some x)(hv:Vis X.env.scope x)(hd:(x == ("__debug__" : Str))=false)(hcd:(x == ("__classdict__" : Str))=false)(hg:Gl X "isinstance")(hm:X.mg "isinstance" = none) :
  ∀{es:List QL}{ns:List Str}{cs:List Addr},Qp9 x es=some ns->(ns.all λn=>(X.env.kindOf n == some .globalImplicit) && !(n == ("__debug__" : Str)))=true->ZQ (λn c=>X.mg n=some (.ref c)) ns cs->PA X es (Qw3 X.K cs)
 |[],ns,cs,h,_,p=>by
  cases h;cases p;exact Qga Zu λσ H Q ⟨a,C,bs,_,_,_,pb,q⟩=>by cases pb;exact q
 |e::es,ns,cs,h,g,p=>by
  unfold Qp9 at h;split at h
  ·rename_i e2;cases e2
  ·rename_i f pf y py n pn pc es' e2
   cases e2;split at h
   ·rename_i hc
    obtain⟨rfl,rfl⟩:=hc;obtain⟨ns',hns,rfl⟩:=Jw.mp h;cases p with
    |@cons _ c _ cs' p1 p2=>
    rw[QgC,Ju,Ju] at g;have g1:Gl X n:=beq_iff_eq.mp g.1.1;have g2:(n == ("__debug__" : Str))=false:=by
     have:=g.1.2;cases q:(n == ("__debug__" : Str)) with
     |false=>rfl
     |true=>rw[q] at this;cases this
    have one:PE X (.Call (.Name "isinstance" pf) [.Name y py,.Name n pn] [] pc) _:=Qah Rx.Qfy hg hm Qal (Qcq (QgV hN hv hd hcd) (Qcq (Qf8 (v:=.ref c) g1 p1 rfl g2) Zu rfl) rfl);refine Qga (Qcq one (QdH hN hv hd hcd hg hm hns g.2 p2) rfl) λσ H Q ⟨a,C,bs,h0,ha,hc,pb,q⟩=>?_
    cases pb with
    |@cons _ b _ bs' q1 q2=>exact⟨_,h0,a,C,.ref c,.ref c,b,rfl,ha,hc,(λu r=>r),q1,a,C,bs',h0,ha,hc,q2,q⟩
   ·cases h
  ·cases h
theorem Jr{α β:Type}{F:α->β->Prop}{a:α}{l:List α}{bs:List β}(h:ZQ F (a::l) bs):∃b bs',bs=b::bs'/\F a b/\ZQ F l bs':=by
 cases h with
 |cons r t=>exact⟨_,_,rfl,r,t⟩
theorem QhN{α β:Type}{F:α->β->Prop}{bs:List β}(h:ZQ F [] bs):bs=[]:=by
 cases h;rfl
end Rk
namespace Rx
open PySem.Calls L2
section
variable{X:Cx}{E:XK}
theorem Qcp(hxe:∀e s1,wpAny (model X.prog X.w) X.A (leaving X.env e) (λ_ s2=>CXE X.prog X.w X.outer X.H₀ X.s₀ E e s2) (λe' s2=>CXE X.prog X.w X.outer X.H₀ X.s₀ E e' s2) s1->X.xe e s1)
  (hstk:X.stack=X.env::X.outer)(hfr:X.env.frame=some X.env.locals)(hex:X.ex=[]):Qar (CXE X.prog X.w) X E:=by
 intro pins σ H s e s' I h;obtain⟨C,H',⟨a,t,B,rfl,os,bare,fl,fa,fH,land⟩,q⟩:=h;refine hxe _ _ ?_
 have fl2:=fl;rw[hstk] at fl2;have fr:X.A.frames=some (X.env::X.outer):=by rw[<- hstk];exact I.ok.frames
 refine wpAny_leaves_onW fr hfr fl2 λh' fl' up=>⟨C,H',⟨a,t,B,rfl,os.trans I.os,bare,fl',?_,fH,λh2 st up2=>?_⟩,q⟩
 ·cases z:X.s₀.heap.get? a with
  |none=>rfl
  |some o=>
   obtain⟨o',e'⟩:=I.base.there a o z (by rw[hex];simp);rw[fa] at e';cases e'
 ·obtain⟨un,hok⟩:=land h2 st (up.trans up2);have J:=I.call' (s':={ s' with heap:=h2 }) (ch:=[]) os un hok bare (λb z=>absurd z (by simp));have hb:=J.base;rw[hex] at hb;exact⟨hb,hok⟩
end
def Qoy(M:Addr->Sp->Prop)(tf:TE)(t:TA):TX:=λσ H Q Ex=>tf σ H λv H0=>∃f sp,v=.ref f/\M f sp/\t σ H0 λvs H1=>sp vs H1 Q λcv _ H2=>∃C,cv=.ref C/\Ex C H2
section
variable{X:Cx}{tf:TE}{fe:QL}{pos:Pos}{e:QL}{es:List QL}{t:TA}{M:Addr->Sp->Prop}
end
end Rx
namespace Rk
open L2 _root_.Rd
structure GlbA (mg:Str->Option Value):Prop where
 isinstance:mg "isinstance" = none
 int:mg "int" = none
 bool:mg "bool" = none
 str:mg "str" = none
 tuple:mg "tuple" = none
 list:mg "list" = none
 all:mg "all" = none
 len:mg "len" = none
 zip:mg "zip" = none
 enumerate:mg "enumerate" = none
 range:mg "range" = none
 max:mg "max" = none
 min:mg "min" = none
 sorted:mg "sorted" = none
 sum:mg "sum" = none
 set:mg "set" = none
 any:mg "any" = none
 reversed:mg "reversed" = none
 divmod:mg "divmod" = none
def Qvo(u:Nat)(neg:Bool):R2:=λx y H Q=>∃c ps ds d,y=.ref c/\H c=some (.tup ps)/\Dats H ps ds/\Dat H x d/\u+d.depth<cLine/\Q (.bl (if neg then !(ds.any λe=>Jo e d) else ds.any λe=>Jo e d)) H
theorem Qta{X:Cx}:OpR X (compareOp .In) (Qvo X.A.in1.units false):=Qtb
end Rk
namespace Rx
open PySem.Calls L2
section
variable{P:QD}{w:Je}{K:PySem.W.Frag}{mg:Str->Option Value}{base:JM}
theorem okE{x qual:Str}{st:ZA}{f:Addr}{fd:Qy}{N ps:List Str}{k:Nat}{sp:Sp}(F:Fun K x qual st f fd)(S:Jg N ps (Qk st))(len:∀vs H Q E,sp vs H Q E->vs.length=ps.length)
  (hbody:∀(cdv:Value)(A:Q5)(outer:List Env)(s:Shared)(H:Hp)(vs:List V)(Q:VK)(E:XK),Room k (A.deeper (envOfC qual (Qk st) s.heap.objs.size f cdv))->sp vs H Q E ->
   ∃t,PSs (cxOf (CXE P w) P w K mg base N qual (Qk st) f cdv A outer s H E) (Jd st) t/\t { nx:=λ_ H'=>Q .non H',rt:=Q } (start N vs) H):FnOk P w K mg base (CXE P w) (k+1) f fd ps sp:=by
 obtain⟨oc,od,kV,doc,pm,an,cdv,ct,osl,rfl,lk,hcd⟩:=F.ex;exact Qrh lk hcd S len λA outer s H vs Q E hr hsp=>hbody cdv A outer s H vs Q E hr hsp
end
end Rx
namespace Rk
open L2 _root_.Rd
section
variable{X:Cx}{is js:List Nat}
end
end Rk
namespace L2
theorem Z7{h:JM}{a:Addr}{its:Array Value}(p:PlainL h a its):h.IsList a its:=by
 obtain⟨o,n,h1,h2,_,h3⟩:=p;exact⟨o,h1,h2,n,h3⟩
structure QfG (h:JM) (z TI TO i1 i2 t1 t2:Addr) (f:Value) (k:Nat):Prop where
 zp:Qor h z TI TO f
 ti:IsPair h TI (.ref i1) (.ref i2)
 to:∃a b,IsPair h TO a b
 i1:h.IsListIter i1 t1 k
 i2:h.IsListIter i2 t2 k
section
variable{prog:QD}{w:Je}{A:Q5}{E:Value->Shared->Prop}{s:Shared}
theorem QiI{z TI TO i1 i2 t1 t2:Addr}{k:Nat}{xs ys:Array Value}{x y:Value}{Q:Option Value->Shared->Prop}(D:Quf z TI TO i1 i2 t1 t2)(Z:QfG s.heap z TI TO i1 i2 t1 t2 .none k)
  (hl1:s.heap.IsList t1 xs)(hl2:s.heap.IsList t2 ys)(hx:xs[k]? = some x)(hy:ys[k]? = some y)
  (hQ:∀h',QfG h' z TI TO i1 i2 t1 t2 (rawInt s.heap.objs.size) (k+1)->IsPair h' s.heap.objs.size x y->(∀c o,c≠z->c≠TO->c≠i1->c≠i2->s.heap.get? c=some o->h'.get? c=some o)->Q (some (.ref s.heap.objs.size)) { s with heap:=h' }) :
  wpAny (model prog w) A (pyNext (.ref z)) Q E s:=by
 obtain⟨hz,hTI,⟨a,b,hTO⟩,h1,h2⟩:=Z;exact wpAny_pyNext_zip_item D hz hTI hTO h1 h2 hl1 hl2 hx hy λh' a1 a2 a3 a4 a5 a6 a7=>hQ h' ⟨a1,a7 _ _ D.TIz D.TITO D.TIi1 D.TIi2 hTI,⟨x,y,a2⟩,a3,a4⟩ a5 a7
theorem Qlu{z TI TO i1 i2 t1 t2:Addr}{k:Nat}{xs ys:Array Value}{Q:Option Value->Shared->Prop}(hh:A.handled=none)(D:Quf z TI TO i1 i2 t1 t2)(Z:QfG s.heap z TI TO i1 i2 t1 t2 .none k)
  (hl1:s.heap.IsList t1 xs)(hl2:s.heap.IsList t2 ys)(hend:xs[k]? = none∨ys[k]? = none)
  (hQ:∀h',(∀c o,c≠z->c≠TO->c≠i1->c≠i2->s.heap.get? c=some o->h'.get? c=some o)->Q none { s with heap:=h' }):wpAny (model prog w) A (pyNext (.ref z)) Q E s:=by
 obtain⟨hz,hTI,⟨a,b,hTO⟩,h1,h2⟩:=Z;exact wpAny_pyNext_zip_end hh D hz hTI hTO h1 h2 hl1 hl2 hend hQ
theorem QiJ{t1 t2:Addr}{xs ys:Array Value}{Q:Value->Shared->Prop}(hl1:s.heap.IsList t1 xs)(hl2:s.heap.IsList t2 ys)
  (h:∀h',QfG h' (s.heap.objs.size+4) (s.heap.objs.size+2) (s.heap.objs.size+3) s.heap.objs.size (s.heap.objs.size+1) t1 t2 .none 0->(∀c o,s.heap.get? c=some o->h'.get? c=some o)->Q (.ref (s.heap.objs.size+4)) { s with heap:=h' }) :
  wpAny (model prog w) A (call (.type "zip") [.ref t1,.ref t2]) Q E s:=
 call_zip_2 hl1 hl2 λh' a1 a2 a3 a4 a5 a6 a7=>h h' ⟨a1,a2,⟨_,_,a3⟩,a4,a5⟩ a7
end
def QwV(t1 t2:Addr):It:=
 ⟨λi H=>∃xs ys x y,H t1=some (.lst xs)/\H t2=some (.lst ys)/\xs[i]? = some x/\ys[i]? = some y,
  λi H v H'=>∃p x y,H p=none/\(∀xs,H t1=some (.lst xs)->xs[i]? = some x)/\(∀ys,H t2=some (.lst ys)->ys[i]? = some y)/\v=.ref p/\H'=upd H p (.tup [x,y]),
  λi H=>∃xs ys,H t1=some (.lst xs)/\H t2=some (.lst ys)/\(xs.length<=i∨ys.length<=i)⟩
theorem QiM{P:QD}{w:Je}{K:PySem.W.Frag}{elts:List QL}{x1}{tpos:Pos}{z TI TO i1 i2 t1 t2:Addr}(D:Quf z TI TO i1 i2 t1 t2) :
  Turn P w K (.Tuple elts x1 tpos) (QwV t1 t2) [z,TI,TO,i1,i2] z (λi h=>QfG h z TI TO i1 i2 t1 t2 .none i) where
 mem:=by simp
 obj:=λi h st b hb=>by
  obtain⟨a1,a2,⟨_,_,a3⟩,⟨o4,a4,_,d4⟩,⟨o5,a5,_,d5⟩⟩:=st;simp only[Qx,QZ,or_false] at hb;rcases hb with rfl | rfl | rfl | rfl | rfl
  ·exact⟨_,a1,λv q=>nomatch q⟩
  ·exact⟨_,a2,λv q=>nomatch q⟩
  ·exact⟨_,a3,λv q=>nomatch q⟩
  ·exact⟨_,a4,λv q=>by rw[d4] at q;cases q⟩
  ·exact⟨_,a5,λv q=>by rw[d5] at q;cases q⟩
 keep:=λi h h' st k=>by
  obtain⟨a1,a2,⟨a,b,a3⟩,a4,a5⟩:=st;exact⟨k z (by simp) _ a1,k TI (by simp) _ a2,⟨a,b,k TO (by simp) _ a3⟩,a4.at λo e=>k i1 (by simp) o e,a5.at λo e=>k i2 (by simp) o e⟩
 item:=by
  intro X hP hw hK hc i pins s σ H E I hf st hg;subst hP hw hK;obtain⟨xs,ys,x,y,h1,h2,hx,hy⟩:=hg;obtain⟨its1,r1,p1,_⟩:=I.list (SqL.of h1);obtain⟨its2,r2,p2,_⟩:=I.list (SqL.of h2);obtain⟨u1,hu1,ru1⟩:=r1.get hx;obtain⟨u2,hu2,ru2⟩:=r2.get hy;refine QiI D st (Z7 p1) (Z7 p2) (by simpa using hu1) (by simpa using hu2) λh' st' tp kp=>?_
  have hlt:∀b∈[z,TI,TO,i1,i2],b≠s.heap.objs.size:=λb hb=>by
   obtain⟨a1,a2,⟨_,_,a3⟩,⟨o4,a4,_,d4⟩,⟨o5,a5,_,d5⟩⟩:=st;simp only[Qx,QZ,or_false] at hb;rcases hb with rfl | rfl | rfl | rfl | rfl
   ·exact Qs (Qi a1)
   ·exact Qs (Qi a2)
   ·exact Qs (Qi a3)
   ·exact Qs (Qi a4)
   ·exact Qs (Qi a5)
  have fr:H s.heap.objs.size=none:=I.hok.fresh (Ql _);refine⟨_,rfl,Qiy st'.zp λh2' z2 s2=>?_⟩;have I1:Inv X pins σ (upd H s.heap.objs.size (.tup [x,y])) { s with heap:=h2',toks:=s.toks }:=by
   refine I.turnedNew (ch:=[z,TI,TO,i1,i2]) hf (λb u hb e=>?_) (Ql _) ⟨by show 2<=sizeLine;decide,[u1,u2],.cons ru1 (.cons ru2 .nil),?_⟩
   ·simp only[Qx,QZ,or_false,not_or] at hb;exact s2.extBut _ _ hb.1 (kp b u hb.1 hb.2.2.1 hb.2.2.2.1 hb.2.2.2.2 e)
   ·exact⟨_,s2.extBut _ _ (hlt z (by simp)).symm tp,rfl,rfl,0,rfl⟩
  refine⟨.ref s.heap.objs.size,_,I1,rfl,⟨_,x,y,fr,λxs' e=>?_,λys' e=>?_,rfl,rfl⟩,?_,λb hb=>?_⟩
  ·rw[h1] at e;cases e;exact hx
  ·rw[h2] at e;cases e;exact hy
  ·obtain⟨a1,a2,⟨a,b,a3⟩,a4,a5⟩:=st';exact⟨z2,s2.extBut _ _ D.TIz a2,⟨a,b,s2.extBut _ _ D.TOz a3⟩,a4.extBut s2.extBut D.i1z,a5.extBut s2.extBut D.i2z⟩
  ·rw[Jb (hlt b hb)];exact(hf b hb).1
 done:=by
  intro X hP hw hK hc i pins s σ H E I hf st hg;subst hP hw hK;obtain⟨xs,ys,h1,h2,he⟩:=hg;obtain⟨its1,r1,p1,_⟩:=I.list (SqL.of h1);obtain⟨its2,r2,p2,_⟩:=I.list (SqL.of h2);have l1:=r1.length;have l2:=r2.length;refine Qlu (I.ok.hd hc) D st (Z7 p1) (Z7 p2) ?_ λh' kp=>⟨rfl,I.turnedAll (t':=s.toks) (ch:=[z,TI,TO,i1,i2]) hf λb u hb e=>?_⟩
  ·rcases he with q | q
   ·exact .inl (by simp;omega)
   ·exact .inr (by simp;omega)
  ·simp only[Qx,QZ,or_false,not_or] at hb;exact kp b u hb.1 hb.2.2.1 hb.2.2.2.1 hb.2.2.2.2 e
 self:=λ_ _ _ _ _ st h=>QbD st.zp h
section
variable{X:Cx}
theorem Qid(n t1 t2:Nat)(h1:t1<n)(h2:t2<n):Quf (n+4) (n+2) (n+3) n (n+1) t1 t2 where
 TIz:=by show ¬(n+2=n+4);omega
 TOz:=by show ¬(n+3=n+4);omega
 i1z:=by show ¬(n=n+4);omega
 i2z:=by show ¬(n+1=n+4);omega
 TITO:=by show ¬(n+2=n+3);omega
 TIi1:=by show ¬(n+2=n);omega
 TIi2:=by show ¬(n+2=n+1);omega
 TOi1:=by show ¬(n+3=n);omega
 TOi2:=by show ¬(n+3=n+1);omega
 i12:=by show ¬(n=n+1);omega
 l1z:=by show ¬(t1=n+4);omega
 l1TO:=by show ¬(t1=n+3);omega
 l1i1:=by show ¬(t1=n);omega
 l1i2:=by show ¬(t1=n+1);omega
 l2z:=by show ¬(t2=n+4);omega
 l2TO:=by show ¬(t2=n+3);omega
 l2i1:=by show ¬(t2=n);omega
 l2i2:=by show ¬(t2=n+1);omega
def QvU(ta:TA):TI:=λσ H R=>ta σ H λvs H1=>∃t1 t2 xs ys,vs=[.ref t1,.ref t2]/\H1 t1=some (.lst xs)/\H1 t2=some (.lst ys)/\R (QwV t1 t2) H1
theorem Qk1:bootBuiltins "zip" = some (.type "zip"):=by decide +kernel
theorem Qo7{a b:QL}{elts:List QL}{x1}{tpos:Pos}{ta:TA}{p pos:Pos}(hg:Gl X "zip")(hm:X.mg "zip" = none)(ha:PA X [a,b] ta)(hs:starEach [a,b] X.env=[(false,eval a X.env),(false,eval b X.env)]:=by rfl)(hs2:starEach [b] X.env=[(false,eval b X.env)]:=by rfl) :
  PI X (.Tuple elts x1 tpos) (.Call (.Name "zip" p) [a,b] [] pos) (QvU ta):=by
 intro pins s σ H R I h;refine Call_ (Qbx I hg hm Qk1 (JL (thn (ha pos pins s σ H _ I h) λus s1 ⟨vs,H1,I1,r1,q1⟩=>?_) (by rw[hs,hs2]) (by rw[hs2];rfl)));obtain⟨t1,t2,xs,ys,e,h1,h2,q⟩:=q1;subst e;obtain⟨u,v,rfl,ru,rv⟩:=vals2 r1;cases(show u=JG t1 from ru);cases(show v=JG t2 from rv);obtain⟨its1,w1,p1,_⟩:=I1.list (SqL.of h1);obtain⟨its2,w2,p2,_⟩:=I1.list (SqL.of h2);have n1:t1<s1.heap.objs.size:=I1.hok.lt h1;have n2:t2<s1.heap.objs.size:=I1.hok.lt h2;refine QiJ (Z7 p1) (Z7 p2) λh' st kp=>?_
 refine QbD (s:={ s1 with heap:=h' }) st.zp ?_
 have D:=Qid s1.heap.objs.size t1 t2 n1 n2;refine⟨s1.heap.objs.size+4,_,_,_,H1,rfl,I1.kept (t':=s1.toks) kp,QiM D,st,λb hb=>?_,q⟩;have hb':s1.heap.objs.size<=b:=by
  simp only[Qx,QZ,or_false] at hb;rcases hb with rfl | rfl | rfl | rfl | rfl<;>omega
 exact I1.fpOk hb' (I1.hok.fresh hb')
end
def Qss(K:PySem.W.Frag):List V->Hp->VK->Prop:=λxs H Q=>∃p ys,xs=[.ref p]/\(SqL K H p ys∨SqT K H p ys)/\Q (.int ys.length) H
def Qvn:List V->Hp->VK->Prop:=λxs H Q=>(∃i,xs=[.int i]/\Q (.int i) H)∨∃k,xs=[.bl k]/\Q (.int (if k then 1 else 0)) H
theorem QkY:bootBuiltins "sum" = some (.builtin "sum"):=by decide +kernel
theorem bt_set:bootBuiltins "set" = some (.type "set"):=by decide +kernel
theorem bt_any:bootBuiltins "any" = some (.builtin "any"):=by decide +kernel
theorem QkZ:bootBuiltins "sorted" = some (.builtin "sorted"):=by decide +kernel
def CMulB(i j:Int):Prop:=∃k:Nat,k<=1000000/\i.natAbs<2^k/\j.natAbs<2^k
theorem Qk4{i:Int}{k:Nat}(h:i.natAbs<2^k):JS i<=k:=by
 unfold JS;split
 ·exact Jx _
 ·rename_i z
  have hz:i.natAbs≠0:=by
   intro q;apply z
   have:i=0:=by omega
   subst this;rfl
  have:=(Nat.log2_lt hz).mpr h;omega
theorem CMulB.ok{i j:Int}(h:CMulB i j):IntMulOk i j:=by
 obtain⟨k,hk,h1,h2⟩:=h;have a:=Qk4 h1;have b:=Qk4 h2;unfold IntMulOk;have c:Qd7 (JS i+JS j:Nat)=false:=by
  unfold Qd7;rw[decide_eq_false];have:bitsLine=134217728:=by decide +kernel
  rw[this];omega
 intro z;rw[Ju] at z;have z2:=z.2;have e:((JS i+JS j:Nat):Int)=(JS i:Int)+(JS j:Int):=by omega
 rw[e] at c;rw[c] at z2;cases z2
section
variable{X:Cx}
theorem QpB:OpR X (binaryOp .Mult) (rI CMulB λi j=>.int (i*j)):=opI λ_ _ _ _ _ _ _ hc q=>mul_int q hc.ok
theorem Qna:QwS X (Quv X.K):=by
 intro pins s σ H o i ov iv Q I ro ri h;obtain⟨p,xs,k,z,rfl,rfl,hq,he,q⟩:=h;cases ro;obtain⟨t,rfl⟩:=ri;obtain⟨its,r,pl,hz⟩:=I.list hq;obtain⟨j,h1,h2,h3,h4,h5⟩:=Qgw he;obtain⟨w,ew,rw'⟩:=r.get h2;have hl:=r.length;have hn:=QdP;have fin:EP X pins σ Q w s:=⟨z,H,I,rw',q⟩;by_cases h0:0<=k
 ·have hj:k.toNat=j:=by
   rw[Qho h0 h5] at h1;exact Qq h1
  exact wpAny_getItem_list pl.isList h0 (by omega) (by rw[hj];simpa using ew) fin
 ·have hj:(k+(its.toArray.size:Int)).toNat=j:=by
   rw[QfJ (by omega) h4] at h1;rw[Qo,<- hl];exact Qq h1
  exact Qno pl.isList (by omega) (by rw[Qo]<;>omega) (by omega) (by rw[hj];simpa using ew) fin
end
end L2
namespace Rk
open L2 _root_.Rd
def Qwi(u:Nat):R2:=λx y H Q=>∃dx dy,Dat H x dx/\Dat H y dy/\u+min dx.depth dy.depth<cLine/\Q (.bl (!Jo dx dy)) H
theorem Qs6{X:Cx}:OpR X (compareOp .NotEq) (Qwi X.A.units):=Qs7
def Qwo(u:Nat):R2:=λx y H Q=>∃dx dy,Dat H x dx/\Dat H y dy/\u+min dx.depth dy.depth<cLine/\Q (.bl (Jo dx dy)) H
theorem Qte{X:Cx}:OpR X (compareOp .Eq) (Qwo X.A.units):=Qtf
theorem QjJ{X:Cx}:OpR X (compareOp .NotIn) (Qvo X.A.in1.units true):=QjK
theorem QsD{X:Cx}{st:ZA}{t:TS}(h:PS X.nox st t):PS X st t:=λpins s σ H D I hw=>
 wpAny_mono (h pins s σ H D (I.wish _) hw) (λ_ _ q=>SP.unwish q) λ_ _ x=>x.elim
end Rk
namespace Rx
open PySem.Calls L2
end Rx
namespace Rk
open L2 _root_.Rd
theorem Qki{n k:Nat}(h:k<n):ixN n (k:Nat)=some k:=by
 unfold ixN;rw[if_pos (by omega),if_pos (by omega)];simp
end Rk
namespace HT
section
open PySem.SeqAt
open PySem.AutoSeq1 (wpAny_loadPart')
open PySem.MeetsSeq PySem.MeetsSeq2 PySem.MeetsSeq3
end
section
variable{prog:QD}{w:Je}{A:Q5}{E:Value->Shared->Prop}{s:Shared}
end
end HT
namespace L2
def Qsm(K:PySem.W.Frag):V->Option Int->Option Int->Hp->VK->Prop:=λx lo hi H Q=>∃a xs,x=.ref a/\SqL K H a xs/\∀p H',Same H H'->H p=none->H' p=some (.lst (Qix xs lo hi))->Q (.ref p) H'
theorem QlE{X:Cx}:SlR X (Qsm X.K):=by
 intro pins s σ H x v vl vu lo hi sl Q I rx hs pl pu h;obtain⟨a,xs,e,hx,q⟩:=h;exact QoD pins s σ H x v vl vu lo hi sl Q I rx hs pl pu ⟨a,xs,e,hx,λp hp=>q p _ (Jk hp) hp Jc⟩
end L2
namespace Rk
open L2 _root_.Rd
end Rk
namespace L2
section
variable{X:Cx}
def Qjl(K:PySem.W.Frag):List V->Hp->VK->Prop:=λxs H Q=>∃p ys,xs=[.ref p]/\((SqL K H p ys/\∀l H',Same H H'->H l=none->H' l=some (.tup ys)->Q (.ref l) H')∨(SqT K H p ys/\Q (.ref p) H))
theorem QaZ:CallR X (.type "tuple") (Qjl X.K):=by
 intro pins s σ H xs us Q I r h;obtain⟨p,ys,e,h⟩:=h;refine QeG pins s σ H xs us Q I r ⟨p,ys,e,?_⟩;rcases h with⟨h1,h2⟩ | h
 ·exact .inl ⟨h1,λl hl=>h2 l _ (Jk hl) hl Jc⟩
 ·exact .inr h
def Qjn(K:PySem.W.Frag):List V->Hp->VK->Prop:=λxs H Q=>∃p ys,xs=[.ref p]/\(SqL K H p ys∨SqT K H p ys)/\∀l H',Same H H'->H l=none->H' l=some (.lst ys)->Q (.ref l) H'
theorem QeH:CallR X (.type "list") (Qjn X.K):=by
 intro pins s σ H xs us Q I r h;obtain⟨p,ys,e,h1,h2⟩:=h;exact Qfx pins s σ H xs us Q I r ⟨p,ys,e,h1,λl hl=>h2 l _ (Jk hl) hl Jc⟩
def Qvm:R2:=λx y H Q=>∃l k xs,x=.ref l/\y=.int k/\H l=some (.lst xs) /\ -(2^63)<=k/\k<2^63/\xs.length*k.toNat<=1000000/\∀p H',Same H H'->H p=none->H' p=some (.lst (Qv k.toNat xs).flatten)->Q (.ref p) H'
theorem QpA:OpR X (binaryOp .Mult) Qvm:=by
 intro pins s σ H x y v u Q I rx ry h;obtain⟨l,k,xs,e1,e2,h1,h2,h3,h4,q⟩:=h;exact QnT pins s σ H x y v u Q I rx ry ⟨l,k,xs,e1,e2,h1,h2,h3,QQ h4 (by decide),λp hp=>q p _ (Jk hp) hp Jc⟩
end
end L2
namespace Rk
open L2 _root_.Rd
def QiZ:Nat->(Nat->Int)->Int
 |0,_=>0
 |n+1,f=>QiZ n f+f n
end Rk
namespace L2
section
variable{X:Cx}
end
section
variable{X:Cx}
end
end L2
namespace Rk
open L2 _root_.Rd
end Rk
namespace Rx
open PySem.Calls L2
abbrev TSX:=L2.Ends->L2.St->Hp->(Addr->Hp->Prop)->Prop
def PSX(X:Cx)(st:ZA)(t:TSX):Prop:=∀(pins:List (Addr×Obj))(s:Shared)(σ:L2.St)(H:Hp)(D:L2.Ends)(Ex:Addr->Hp->Prop),Inv X pins σ H s->t D σ H Ex ->
 wpAny (model X.prog X.w) X.A (exec st X.env) (SP X pins D) (XP X pins λσ1 C H1=>σ1=σ/\Ex C H1) s
def Qv9(X:Cx)(sts:List ZA)(t:TSX):Prop:=∀(pins:List (Addr×Obj))(s:Shared)(σ:L2.St)(H:Hp)(D:L2.Ends)(Ex:Addr->Hp->Prop),Inv X pins σ H s->t D σ H Ex ->
 wpAny (model X.prog X.w) X.A (execs sts X.env) (SP X pins D) (XP X pins λσ1 C H1=>σ1=σ/\Ex C H1) s
section
variable{X:Cx}{e:QL}{st:ZA}{pos:Pos}{te:TX}{t u:TSX}{tc:TT}{c:QL}{a b:List ZA}
theorem QlZ(he:PEX X e te)(hs:swapsWith e none pos.line X.env=pure false:=by rfl):PSX X (.Expr e pos) (λD σ H Ex=>te σ H (λ_ H1=>D.nx σ H1) Ex):=by
 intro pins s σ H D Ex I h;exact wpAny_Expr_any (thn (he pins s σ H _ _ I h) λv s1 ⟨x,H1,I1,r1,q1⟩=>⟨σ,H1,I1,q1⟩) I.quiet hs
theorem QlY(h1:PSX X st t):Qv9 X [st] t:=by
 intro pins s σ H D Ex I h;refine QbE (thn (h1 pins s σ H D Ex I h) λf s1 q=>?_);cases f with
 |next=>exact Qau q
 |ret v=>exact q
 |brk=>exact q
 |cont=>exact q
end
def Qu9(K:PySem.W.Frag)(R:Addr)(i:Nat)(tb:TSX)(th:TE):TS:=λD σ H=>tb D σ H λC H1=>ByC K C R/\∀a,H1 a=none->th (σ.set i (some (.ref a))) (upd H1 a (exO a C)) D.rt
section
variable{X:Cx}{R:Addr}{i:Nat}{n r:Str}{body:List ZA}{hx:QL}{tb:TSX}{th:TE}{np hp hpos pos:Pos}
theorem Qo2(hstk:X.stack=X.env::X.outer)(hfr:X.env.frame=some X.env.locals)(hc:Qv9 X body tb)(hN:X.N.Nodup)(hi:X.N[i]? = some n)(hl:X.env.scope.names.lookup n=some .local)
  (hg:Gl X r)(hm:X.mg r=some (.ref R))(hh:∀e,PE (mkd X e) hx th)(hd:(r == ("__debug__" : Str))=false:=by decide) :
  PS X (.Try body [.ExceptHandler (some (.Name r np)) (some n) [.Return (some hx) hp] hpos] [] [] pos) (Qu9 X.K R i tb th):=by
 intro pins s σ H D I h;refine wpAny_Try_except (wpAny_mono (hc pins s σ H D _ I h) (λf s1 q=>?_) λe s1 z=>?_)
 ·cases f with
  |next=>exact Qau q
  |ret v=>exact q
  |brk=>exact q
  |cont=>exact q
 obtain⟨σ1,C,H1,a,t,B,rfl,fl,fH,f0,fp,land,eσ,bc,q⟩:=z;subst eσ;rw[hstk] at fl;have fr:X.A.frames=some (X.env::X.outer):=by rw[<- hstk];exact I.ok.frames
 refine wpAny_looks_onW fr hfr fl λh4 held4 up4=>?_
 refine wpAny_landsW held4 λh5 fl5 up5=>?_
 have I5:L2.Inv X pins σ1 H1 { s1 with heap:=h5 }:=land h5 s1.toks fl5.1 (up4.trans up5);have x5:ExAt a C h5:=by
  obtain⟨oe,vs,e1,e2,e3,_⟩:=fl5.first
  exact⟨oe,vs,e1,e2,e3⟩
 refine wpAny_handleBy_cons (codeAny_handlers_test (Qb2 (X:=mkd X (.ref a)) (Qkm I5 _) hg hm ?_ hd)) (by intro q;cases q);refine QhU (s:={ s1 with heap:=h5 }) I5.kIn x5 bc ?_
 refine codeAny_handlers_suite_as ?_
 refine lands_againW fl5 λh6 fl6 up6=>?_
 have I6:L2.Inv X pins σ1 H1 { s1 with heap:=h6 }:=land h6 s1.toks fl6.1 ((up4.trans up5).trans up6);have x6:ExAt a C h6:=by
  obtain⟨oe,vs,e1,e2,e3,_⟩:=fl6.first
  exact⟨oe,vs,e1,e2,e3⟩
 have I7:=Qkl I6 fH f0 fp x6;refine Qee I7 hN hi (Q0 hl) (show RelV (.ref a) (.ref a) from rfl) (λs8 I8=>?_) (.inr hl);refine QbE (QuH (wpAny_mono (hh (.ref a) pins s8 _ _ _ (Qkm I8 _) (q a fH)) (λv s9 ⟨x,H9,I9,r9,q9⟩=>?_) λ_ _ z=>z.elim));have J9:L2.Inv X pins _ H9 s9:=Qm6 I.ok I9;obtain⟨m,hn,hmm⟩:=id J9.loc;refine wpAny_nameGoes_keeps hl hn (by rw[I.ok.kind];rfl) λh' v' hn' hs'=>?_
 exact⟨x,_,H9,Qm7 J9 hN hi hmm hn' hs',r9,q9⟩
end
end Rx
namespace L2
section
variable{X:Cx}
def Qsr(K:PySem.W.Frag):List V->Hp->VK->Prop:=λxs H Q=>∃(p:Addr)(ns:List Int),xs=[.ref p]/\SqL K H p (ns.map V.int)/\0<ns.length/\∀m,m∈ns->(∀y∈ns,m<=y)->Q (.int m) H
theorem QkV(hc:X.calm=true):CallR X (.builtin "min") (Qsr X.K):=by
 intro pins s σ H xs us Q I r h;obtain⟨p,ns,rfl,hp,hn,q⟩:=h;obtain⟨u,rfl,ru⟩:=vals1 r;cases ru;obtain⟨its,rv,pl,hz⟩:=I.list hp;have hi:Qbj its ns:=intsAre_of rv;obtain⟨ys,hx⟩:=hi.allInts.items;have hl':s.heap.IsList p (intItems ys):=hx ▸ pl.isList;have hsz:ys.size=ns.length:=by
  have h1:its.toArray.size=(intItems ys).size:=by rw[hx]
  rw[Qo,hi.length] at h1;simp[intItems] at h1;omega
 have num:∀j m,ns[j]? = some m->numAt ys j=m:=λj m e=>by
  obtain⟨w,hw,rw'⟩:=rv.get (i:=j) (x:=V.int m) (by rw[Qz,e];rfl);have h2:(intItems ys)[j]? = some w:=by rw[<- hx,Qin];exact hw
  unfold intItems at h2;rw[Array.getElem?_map] at h2;obtain⟨y,hy,ey⟩:=Jw.mp h2;unfold numAt;rw[hy];subst ey;obtain⟨t,et⟩:=rw';cases et;rfl
 refine min_intList (I.ok.hd hc) hl' (by omega) λv h' tk hv hk=>?_
 rw[<- hx] at hv;rw[Qin] at hv;have ab:=argBest_lt (numAt ys) (ys.size - 1);generalize argBest (λi j=>decide (numAt ys i<numAt ys j)) (ys.size - 1)=b at *;obtain⟨x,hx2,rx⟩:∃x,(ns.map V.int)[b]? = some x/\RelV x v:=by
  have hlen:=rv.length;have hlt:=(Qw.mp hv).1;cases e:(ns.map V.int)[b]? with
  |none=>
   have:=List.getElem?_eq_none_iff.mp e
   omega
  |some x=>
   obtain⟨w,hw,rw'⟩:=rv.get e;rw[hw] at hv;cases hv;exact⟨x,rfl,rw'⟩
 rw[Qz] at hx2;obtain⟨m,hm,rfl⟩:=Jw.mp hx2;refine⟨.int m,H,I.kept hk,rx,q m (QM hm) λy hy=>?_⟩;obtain⟨j,hj⟩:=Q7.mp hy;have hjl:=(Qw.mp hj).1;have:=ab.2 j (by omega);rw[num b m hm,num j y hj] at this;exact this
end
end L2
namespace Rk
open L2 _root_.Rd
end Rk
namespace L2
section
variable{κ:Type}[DecidableEq κ]
end
section
variable{P:QD}{w:Je}{H:Hp}{h:JM}{a:Addr}
end
section
variable{X:Cx}{pins:List (Addr×Obj)}{σ:St}{H:Hp}{s:Shared}{a:Addr}{y v:V}{u r:Value}{o:Option V}{A:Q5}{E:Value->Shared->Prop}
end
section
variable{X:Cx}{pins:List (Addr×Obj)}{σ:St}{H:Hp}{s:Shared}{a:Addr}{kvs:List (Key×V)}{k:Key}{u:Value}{A:Q5}{E:Value->Shared->Prop}
end
section
variable{X:Cx}{o i e value:QL}{pos pos' tpos:Pos}{td ty tv:TE}
end
section
variable{X:Cx}{pos:Pos}
end
section
variable{X:Cx}{pins:List (Addr×Obj)}{σ:St}{H:Hp}{s:Shared}{a:Addr}{y d:V}{u r:Value}{o:Option V}{A:Q5}{E:Value->Shared->Prop}
end
section
variable{X:Cx}{o e f:QL}{apos cpos:Pos}{td ty tx:TE}
end
section
variable{X:Cx}{pins:List (Addr×Obj)}{σ:St}{H:Hp}{s:Shared}{a:Addr}{kvs:List (Key×V)}{A:Q5}{E:Value->Shared->Prop}
end
section
variable{X:Cx}{pins:List (Addr×Obj)}{σ:St}{H:Hp}{s:Shared}{a:Addr}{y:V}{u:Value}{A:Q5}{E:Value->Shared->Prop}
end
section
variable{X:Cx}{pins:List (Addr×Obj)}{σ:St}{l it S fa:Addr}{xs:List V}{kw:List (Str×Value)}{val:Nat->Int}{H0:Hp}{R:Qhp->Shared->Prop}
def bstI(val:Nat->Int)(j:Nat):Nat:=argBest (λa b=>decide (val a<val b)) j
def Yt(S:Addr)(H0 H:Hp):Prop:=∀b o,b≠S->H0 b=some o->H b=some o
def QeK(X:Cx)(σ:St)(S fa:Addr)(xs:List V)(val:Nat->Int)(H0:Hp):Prop:=
 ∀(i:Nat)(x:V)(u:Value)(pins':List (Addr×Obj))(s:Shared)(H:Hp)(E:Value->Shared->Prop),xs[i]? = some x->RelV x u->Inv X pins' σ H s->Yt S H0 H ->
  wpAny (model X.prog X.w) X.A.in1 (call (.ref fa) [u]) (λr s'=>∃t H',r=.int (val i) t/\Inv X pins' σ H' s'/\Same H H') E s
theorem Qf6{s:Shared}{H:Hp}{ys zs:List V}{vs:List Value}(I:Inv X pins σ H s)(e:H S=some (.lst ys))(r:Vals zs vs)(hz:zs.length<=sizeLine):Inv X pins σ (upd H S (.lst zs)) { s with heap:=s.heap.update S (QbF λ_=>vs.toArray) }:=by
 obtain⟨_,its,n,rv,ln,ho⟩:=I.lstM e;refine I.write (t':=s.toks) (x:=S) (e:=S) (by rw[e];exact Qbg) (.inl rfl) (λb u hb z=>(ZR _ _ (Qaz hb)).trans z) ⟨_,YA _ ho rfl⟩ ⟨hz,vs,_,r,YA _ ho rfl⟩
theorem Qfj(hl:H0 l=some (.lst xs))(hlS:l≠S)(hkey:QeK X σ S fa xs val H0)(hc:X.calm=true)
  (hR:∀u s' H' x,xs[bstI val (xs.length - 1)]? = some x->RelV x u->Inv X pins σ H' s'->Yt S H0 H'->R (.ok (.ret u)) s') :
  ∀(k j:Nat)(s:Shared)(H:Hp)(x:V),xs.length - (j+1)=k->j+1<=xs.length->Inv X pins σ H s->FpOk X pins H it->s.heap.IsListIter it l (j+1)->Yt S H0 H->H S=some (.lst [x,.int (val (bstI val j))])->xs[bstI val j]? = some x ->
  codeAny (model X.prog X.w) X.A (.builtin "min.loop" ⟨[.ref it,.ref fa,.ref S],kw⟩) R s:=by
 have hname:(toString "min" ++ toString ".loop" : String) = "min.loop" := by decide
 intro k;induction k with
 |zero=>
  intro j s H x hk hj I hf st kp eS hx;have hin:j+1=xs.length:=by omega
  obtain⟨_,its,n,rv,ln,ho⟩:=I.lstM eS;obtain⟨u,w',e2,r1,r2⟩:∃u w',its=[u,w']/\RelV x u/\RelV (.int (val (bstI val j))) w':=by
   match its,rv with
   |[u,w'],.cons a (.cons b .nil)=>exact⟨u,w',rfl,a,b⟩
  subst e2;obtain⟨hz,its,n2,rl,ll,hol⟩:=I.lstM (kp _ _ hlS hl);obtain⟨f0,f1,f2,f3,f4,f5⟩:=hf;refine Qav Qbe ?_
  rw[YC Zy _];show wpAny _ X.A.in1 (seqItems? (.ref S) >>= _) _ _ s;refine wpAny_bind (JU ho rfl ?_);show wpAny _ X.A.in1 (tryCatch (pyNext (.ref it)) _ >>= _) _ _ s;refine wpAny_bind (Yh (Qck (I.ok.hd hc) st ⟨_,hol,rfl,_,rfl⟩ (by simp;omega) λh' eb=>?_));have I1:Inv X pins σ H { s with heap:=h' }:=I.turned (t':=s.toks) (λb o hb e=>eb b o hb e) f0 f1 f3 f4 f5;have ho1:h'.get? S=_:=eb S _ (λz=>by rw[z,f0] at eS;cases eS) ho;show wpAny _ X.A.in1 (updateSeq S (λ_=>#[]) >>= _) _ _ _;refine wpAny_bind ?_
  refine Qhm ho1 rfl (wpAny_bind (Qat (Qj ?_)));refine hR u _ _ x (by rw[<- hin];exact hx) r1 (Qf6 (vs:=[]) (zs:=[]) I1 eS .nil (Jx _)) λb o hb e=>?_
  rw[Jb hb];exact kp b o hb e
 |succ k ih=>
  intro j s H x hk hj I hf st kp eS hx;have hlt:j+1<xs.length:=by omega
  obtain⟨_,its,n,rv,ln,ho⟩:=I.lstM eS;obtain⟨u,w',e2,r1,r2⟩:∃u w',its=[u,w']/\RelV x u/\RelV (.int (val (bstI val j))) w':=by
   match its,rv with
   |[u,w'],.cons a (.cons b .nil)=>exact⟨u,w',rfl,a,b⟩
  subst e2;obtain⟨tw,rfl⟩:=r2;obtain⟨hz,its,n2,rl,ll,hol⟩:=I.lstM (kp _ _ hlS hl);obtain⟨v,hv,rv2⟩:=rl.get (i:=j+1) (x:=xs[j+1]) (Qm hlt);obtain⟨f0,f1,f2,f3,f4,f5⟩:=id hf;have nS:S≠it:=λz=>by rw[z,f0] at eS;cases eS
  refine Qav Qbe ?_
  rw[YC Zy _];show wpAny _ X.A.in1 (seqItems? (.ref S) >>= _) _ _ s;refine wpAny_bind (JU ho rfl ?_);show wpAny _ X.A.in1 (tryCatch (pyNext (.ref it)) _ >>= _) _ _ s;refine wpAny_bind (Yh (QbI st ⟨_,hol,rfl,_,rfl⟩ (x:=v) (by simpa using hv) λh' st' sb=>?_));have I1:Inv X pins σ H { s with heap:=h' }:=I.turned (t':=s.toks) (λb o hb e=>(sb.2 b hb).trans e) f0 f1 f3 f4 f5;have pn:∀b∈[it],∃o,h'.get? b=some o/\∀v,o.data≠.cell v:=λb hb=>by
   have e:b=it:=by simpa using hb
   subst e;obtain⟨o,e,c,d⟩:=st';exact⟨o,e,λv z=>by rw[d] at z;cases z⟩
  have hfA:∀b∈[it],FpOk X pins H b:=λb hb=>by
   have e:b=it:=by simpa using hb
   rw[e];exact hf
  have I1p:=I1.pinned (fp:=[it]) hfA pn;show wpAny _ X.A.in1 (tryCatch (holding [v] (call (.ref fa) [v])) _ >>= _) _ _ _;refine wpAny_bind (Yh (JN (wpAny_mono (hkey (j+1) _ v _ _ H _ (Qm hlt) rv2 I1p kp) (λr s2 ⟨t,H2,er,I2p,s12⟩=>?_) λ_ _ e=>e)));subst er;have I2:=I2p.unpinned;have it2:s2.heap.IsListIter it l (j+1+1):=st'.at λo e=>(I2p.pin (it,o) (QJ _ (QJ _ (Z8 (QY.mpr rfl) e)))).1
  have f02:H2 it=none:=by
   obtain⟨o,e,_⟩:=id st';exact(I2p.pin (it,o) (QJ _ (QJ _ (Z8 (QY.mpr rfl) e)))).2.1
  have hf2:FpOk X pins H2 it:=⟨f02,f1,f2,f3,f4,f5⟩;have kp2:Yt S H0 H2:=λb o hb e=>s12 _ _ (kp b o hb e)
  have eS2:=s12 _ _ eS;obtain⟨_,its2,n3,rv3,ln3,ho2⟩:=I2.lstM eS2;show wpAny _ X.A.in1 (tryCatch (holding [v,.int (val (j+1)) t] (richCompare .Lt (.int (val (j+1)) t) (.int (val (bstI val j)) tw) >>= _)) _ >>= _) _ _ _;refine wpAny_bind (Yh (JN (wpAny_bind (HT.QgO _ _ _ _ _ _ _ _ _ _ ?_))));refine wpAny_bind (JN (Jy ?_));refine wpAny_bind (Qat (Qj ?_));have eb:bstI val (j+1)=if decide (val (j+1)<val (bstI val j))=true then j+1 else bstI val j:=rfl
  cases hb:decide (val (j+1)<val (bstI val j)) with
  |true=>
   rw[hb,if_pos rfl] at eb;simp only[if_true];refine wpAny_bind ?_
   refine Qhm ho2 rfl (wpAny_bind (Qat ?_));rw[hname];have I3:=Qf6 (vs:=[v,.int (val (j+1)) t]) (zs:=[xs[j+1],.int (val (j+1))]) I2 eS2 (.cons rv2 (.cons ⟨t,rfl⟩ .nil)) (by show 2<=sizeLine;decide);refine Qj ⟨QdY Zy _,ih (j+1) _ _ xs[j+1] (by omega) hlt I3 ⟨by rw[Jb (Qaz nS)];exact f02,f1,f2,f3,f4,f5⟩ (it2.at λo e=>(ZR _ _ nS).trans e) (λb o hb e=>by rw[Jb hb];exact kp2 b o hb e) (by rw[eb];exact Jc) (by rw[eb];exact Qm hlt)⟩
  |false=>
   rw[hb,if_neg Qr] at eb;simp only[Qlt,if_false];refine wpAny_bind (Qat ?_);rw[hname];exact Qj ⟨QdY Zy _,ih (j+1) _ _ x (by omega) hlt I2 hf2 it2 kp2 (by rw[eb];exact eS2) (by rw[eb];exact hx)⟩
theorem Qes(hl:H0 l=some (.lst xs))(hlS:l≠S)(hkey:QeK X σ S fa xs val H0)(hc:X.calm=true)(hn:0<xs.length)
  (hR:∀u s' H' x,xs[bstI val (xs.length - 1)]? = some x->RelV x u->Inv X pins σ H' s'->Yt S H0 H'->R (.ok (.ret u)) s'){s:Shared}{H:Hp}(I:Inv X pins σ H s)(hf:FpOk X pins H it)(st:s.heap.IsListIter it l 0)(kp:Yt S H0 H)(eS:H S=some (.lst [])) :
  codeAny (model X.prog X.w) X.A (.builtin "min.loop" ⟨[.ref it,.ref fa,.ref S],kw⟩) R s:=by
 have hname:(toString "min" ++ toString ".loop" : String) = "min.loop" := by decide
 obtain⟨_,its,n,rv,ln,ho⟩:=I.lstM eS;cases rv;obtain⟨hz,its,n2,rl,ll,hol⟩:=I.lstM (kp _ _ hlS hl);obtain⟨v,hv,rv2⟩:=rl.get (i:=0) (x:=xs[0]) (Qm hn);obtain⟨f0,f1,f2,f3,f4,f5⟩:=id hf;have nS:S≠it:=λz=>by rw[z,f0] at eS;cases eS
 refine Qav Qbe ?_
 rw[YC Zy _];show wpAny _ X.A.in1 (seqItems? (.ref S) >>= _) _ _ s;refine wpAny_bind (JU ho rfl ?_);show wpAny _ X.A.in1 (tryCatch (pyNext (.ref it)) _ >>= _) _ _ s;refine wpAny_bind (Yh (QbI st ⟨_,hol,rfl,_,rfl⟩ (x:=v) (by simpa using hv) λh' st' sb=>?_));have I1:Inv X pins σ H { s with heap:=h' }:=I.turned (t':=s.toks) (λb o hb e=>(sb.2 b hb).trans e) f0 f1 f3 f4 f5;have pn:∀b∈[it],∃o,h'.get? b=some o/\∀v,o.data≠.cell v:=λb hb=>by
  have e:b=it:=by simpa using hb
  subst e;obtain⟨o,e,c,d⟩:=st';exact⟨o,e,λv z=>by rw[d] at z;cases z⟩
 have hfA:∀b∈[it],FpOk X pins H b:=λb hb=>by
  have e:b=it:=by simpa using hb
  rw[e];exact hf
 have I1p:=I1.pinned (fp:=[it]) hfA pn;show wpAny _ X.A.in1 (tryCatch (holding [v] (call (.ref fa) [v])) _ >>= _) _ _ _;refine wpAny_bind (Yh (JN (wpAny_mono (hkey 0 _ v _ _ H _ (Qm hn) rv2 I1p kp) (λr s2 ⟨t,H2,er,I2p,s12⟩=>?_) λ_ _ e=>e)));subst er;have I2:=I2p.unpinned;have it2:s2.heap.IsListIter it l (0+1):=st'.at λo e=>(I2p.pin (it,o) (QJ _ (QJ _ (Z8 (QY.mpr rfl) e)))).1
 have f02:H2 it=none:=by
  obtain⟨o,e,_⟩:=id st';exact(I2p.pin (it,o) (QJ _ (QJ _ (Z8 (QY.mpr rfl) e)))).2.1
 have eS2:=s12 _ _ eS;obtain⟨_,its2,n3,rv3,ln3,ho2⟩:=I2.lstM eS2;show wpAny _ X.A.in1 (updateSeq S (λ_=>#[v,.int (val 0) t]) >>= _) _ _ _;refine wpAny_bind ?_
 refine Qhm ho2 rfl ?_
 rw[hname];have I3:=Qf6 (vs:=[v,.int (val 0) t]) (zs:=[xs[0],.int (val 0)]) I2 eS2 (.cons rv2 (.cons ⟨t,rfl⟩ .nil)) (by show 2<=sizeLine;decide);exact Qj ⟨QdY Zy _,Qfj hl hlS hkey hc hR _ 0 _ _ xs[0] rfl hn I3 ⟨by rw[Jb (Qaz nS)];exact f02,f1,f2,f3,f4,f5⟩ (it2.at λo e=>(ZR _ _ nS).trans e) (λb o hb e=>by rw[Jb hb];exact s12 _ _ (kp b o hb e)) Jc (Qm hn)⟩
theorem Qfi(hl:H0 l=some (.lst []))(hlS:l≠S)(hc:X.calm=true){d:Value}{kn:Str}{s:Shared}{H:Hp}(I:Inv X pins σ H s)(hf:FpOk X pins H it)(st:s.heap.IsListIter it l 0)(kp:Yt S H0 H)(eS:H S=some (.lst []))(hR:∀s',Inv X pins σ H s'->R (.ok (.ret d)) s') :
  codeAny (model X.prog X.w) X.A (.builtin "min.loop" ⟨[.ref it,.ref fa,.ref S],[(kn,d)]⟩) R s:=by
 obtain⟨_,its,n,rv,ln,ho⟩:=I.lstM eS;cases rv;obtain⟨hz,its,n2,rl,ll,hol⟩:=I.lstM (kp _ _ hlS hl);cases rl;obtain⟨f0,f1,f2,f3,f4,f5⟩:=id hf;refine Qav Qbe ?_
 rw[YC Zy _];show wpAny _ X.A.in1 (seqItems? (.ref S) >>= _) _ _ s;refine wpAny_bind (JU ho rfl ?_);show wpAny _ X.A.in1 (tryCatch (pyNext (.ref it)) _ >>= _) _ _ s;refine wpAny_bind (Yh (Qck (I.ok.hd hc) st ⟨_,hol,rfl,_,rfl⟩ (by simp) λh' eb=>?_));have I1:Inv X pins σ H { s with heap:=h' }:=I.turned (t':=s.toks) (λb o hb e=>eb b o hb e) f0 f1 f3 f4 f5;show wpAny _ X.A.in1 (rule _ >>= _) _ _ _;exact wpAny_bind (wpAny_rule (Qj (hR _ I1)))
end
section
variable{prog:QD}{w:Je}{A:Q5}{E:Value->Shared->Prop}{s:Shared}
theorem Qft{id:String}{b:Qbl}{args:List Value}{kw:List (Str×Value)}{Q:Value->Shared->Prop}(hk:builtinKind id=none)(hp:plainId id=true)
  (hb:entryFor table id=some b)(ha:argsOk id ⟨args,kw⟩)
  (hc:wpAny (model prog w) A.in1 (b ⟨args,kw⟩) (λfin s'=>match fin with
   |.done f=>(match (Except.ok f:Qhp) with | .ok (.ret v)=>Q v s' | .ok _=>False | .error e=>E e s')
   |.again c'=>c'.quiet=true/\codeAny (model prog w) A c' (λr s'=>match r with | .ok (.ret v)=>Q v s' | .ok _=>False | .error e=>E e s') s') E s) :
  wpAny (model prog w) A (call (.builtin id) args kw) Q E s:=by
 refine Qa3 (QcF hp hb ?_);simp only[checkBuiltinCall,hk];cases hsig:Manifest.signature? id with
 |none=>exact Qj hc
 |some sig=>
  have ha':Bind.checkArgs id sig ⟨args,kw⟩=pure ():=by simpa only[argsOk,hsig] using ha
  simp only[ha'];exact Qj hc
end
theorem Qic(a f:Value):argsOk "min" ⟨[a],[("key",f)]⟩:=by unfold argsOk;kernel_rfl
theorem Qgx(a f d:Value):argsOk "min" ⟨[a],[("key",f),("default",d)]⟩:=by unfold argsOk;kernel_rfl
section
variable{X:Cx}{pins:List (Addr×Obj)}{σ:St}{l fa:Addr}{xs:List V}{val:Nat->Int}
theorem Qfu{dv:Option (V×Value)}{H:Hp}{s:Shared}{Q:VK}{E:Value->Shared->Prop}(hc:X.calm=true)(I:Inv X pins σ H s)(hl:H l=some (.lst xs))(hd:∀p,dv=some p->RelV p.1 p.2)(hkey:∀S,H S=none->QeK X σ S fa xs val H)
  (h0:xs=[]->∃p,dv=some p/\∀H',Same H H'->Q p.1 H')(h1:∀x,xs[bstI val (xs.length - 1)]? = some x->∀H',Same H H'->Q x H') :
  wpAny (model X.prog X.w) X.A (call (.builtin "min") [.ref l] (("key",.ref fa)::dv.toList.map λp=>("default",p.2))) (EP X pins σ Q) E s:=by
 have hname:(toString "min" ++ toString ".loop" : String) = "min.loop" := by decide
 refine Qft F.kind_min F.plain_min F.entry_min (by cases dv with | none=>exact Qic _ _ | some p=>exact Qgx _ _ _) ?_
 show wpAny _ X.A.in1 (Qbf "min" ["key", "default"] 0 ⟨[],("key",.ref fa)::dv.toList.map λp=>("default",p.2)⟩ >>= _) _ _ s;refine wpAny_bind (wpAny_of_eq (show Qbf "min" ["key", "default"] 0 ⟨[],("key",.ref fa)::dv.toList.map λp=>("default",p.2)⟩=pure [some (.ref fa),dv.map (·.2)] by cases dv<;>rfl) ?_);refine wpAny_bind (Qj ?_);obtain⟨hz,its,n,rl,ll,hol⟩:=I.lstM hl;refine wpAny_bind (Qa1 (l:=l) ⟨_,hol,rfl,_,rfl⟩ ?_);have I1:Inv X pins σ H { s with heap:=s.heap.push { cls:=.type "list_iterator",data:=.fields #[.ref l,.int 0 0] } }:=I.kept (t':=s.toks) λb o e=>Qd _ e
 have hf:FpOk X pins H s.heap.objs.size:=I.fpOk (Ql _) (I.hok.fresh (Ql _));generalize hs1:({ s with heap:=s.heap.push { cls:=.type "list_iterator",data:=.fields #[.ref l,.int 0 0] } }:Shared)=s1 at I1;have st1:s1.heap.IsListIter s.heap.objs.size l 0:=by rw[<- hs1];exact⟨_,Qp _ rfl,rfl,rfl⟩
 have z1:s1.heap.objs.size=s.heap.objs.size+1:=by rw[<- hs1];exact Zd ..
 refine wpAny_bind (JD ?_);have I2:=I1.lnew (t':=s1.toks) (ys:=[]) (its:=[]) .nil (Jx _);have fS:H s1.heap.objs.size=none:=I1.hok.fresh (Ql _);have nl:l≠s1.heap.objs.size:=λz=>by rw[z,fS] at hl;cases hl
 have nit:s.heap.objs.size≠s1.heap.objs.size:=by rw[z1];exact Qs (QrJ _)
 have kp:Yt s1.heap.objs.size H (upd H s1.heap.objs.size (.lst [])):=λb o hb e=>by rw[Jb hb];exact e
 obtain⟨f0,f1,f2,f3,f4,f5⟩:=hf;have hf2:FpOk X pins (upd H s1.heap.objs.size (.lst [])) s.heap.objs.size:=⟨by rw[Jb nit];exact f0,f1,f2,f3,f4,f5⟩;have st2:(s1.heap.push { cls:=.type "list",data:=.seq ([]:List Value).toArray }).IsListIter s.heap.objs.size l 0:=st1.at λo e=>Qd _ e
 have sm:∀{H':Hp},Yt s1.heap.objs.size H H'->Same H H':=λk b o e=>k b o (λz=>by rw[z,fS] at e;cases e) e
 rw[hname];refine Qj ⟨QdY Zy _,?_⟩;cases xs with
 |nil=>
  obtain⟨p,ep,hq⟩:=h0 rfl;subst ep;exact Qfi (R:=λr s'=>match r with | .ok (.ret v)=>EP X pins σ Q v s' | .ok _=>False | .error e=>E e s') hl nl hc I2 hf2 st2 kp Jc λs' I'=>⟨p.1,_,I',hd p rfl,hq _ (sm kp)⟩
 |cons x0 xr=>
  exact Qes (R:=λr s'=>match r with | .ok (.ret v)=>EP X pins σ Q v s' | .ok _=>False | .error e=>E e s') hl nl (hkey _ fS) hc (by show 0<xr.length+1;omega) (λu s' H' x hx r I' k=>⟨x,H',I',r,h1 x hx H' (sm k)⟩) I2 hf2 st2 kp Jc
end
end L2
namespace L2
open PySem.Calls _root_.Rd _root_.Rk
section
variable{X:Cx}{k:Nat}{fa:Addr}{fd:Qy}{pn:Str}{sp:Sp}{E0:XK}
end
end L2
namespace Rk
open L2 _root_.Rd
def QiK:List Str:=["order", "size", "many", "number", "stand", "square", "counts", "hits", "stairs", "alike"]
def QfT:List Str:=QiK++Qv 9 ("no" : Str)
def Qeg(K:PySem.W.Frag)(cs:List Addr):Sp:=λvs H Q _=>∃(a C:Addr)(bs:List Bool)(j:Nat)(wd:Str),vs=[.ref a]/\H a=some (Rx.exO a C)/\Rx.ExC K C/\ZQ (λc b=>PySem.W.kitOne K (.ref C) (.ref c)=some b) cs bs/\PySem.W.kitOne K (.ref C) (.type "ValueError")=some true /\
 bs.countP id=1/\bs[j]? = some true/\(∀m,m<j->bs[m]? = some false)/\QfT[j]? = some wd/\∀H',Same H H'->Q (.str wd) H'
structure KOk2 (K:PySem.W.Frag) (cs:List Addr) (R C:Addr) (wd:Str):Prop where
 by_:Rx.ByC K C R
 ex:∃(bs:List Bool)(j:Nat),Rx.ExC K C/\ZQ (λc b=>PySem.W.kitOne K (.ref C) (.ref c)=some b) cs bs/\PySem.W.kitOne K (.ref C) (.type "ValueError")=some true/\bs.countP id=1/\bs[j]? = some true/\(∀m,m<j->bs[m]? = some false)/\QfT[j]? = some wd
theorem Qm9{K:PySem.W.Frag}{cs:List Addr}{R C:Addr}{wd:Str}(o:KOk2 K cs R C wd){H1:Hp}{Q:VK}{σ:L2.St}{i:Nat}(hi:i < σ.length)(k:∀H',Same H1 H'->Q (.str wd) H') :
  Rx.ByC K C R/\∀a,H1 a=none->(QfW (Qiu i) Qsd) (σ.set i (some (.ref a))) (upd H1 a (Rx.exO a C)) λvs H2=>Qeg K cs vs H2 Q E0:=by
 refine⟨o.by_,λa ha=>?_⟩;obtain⟨bs,j,hx,pb,eV,hc,hj,hm,hw⟩:=o.ex;exact⟨_,Yq hi,a,C,bs,j,wd,rfl,Jc,hx,pb,eV,hc,hj,hm,hw,λH2 s2=>k H2 ((Jk ha).trans s2)⟩
end Rk
namespace Dl
open L2 _root_.Rd Rk
def dkV(kvs:List (Int×Int)):List (Key×V):=kvs.map λp=>(Qbh p.1,V.int p.2)
def dkD(kvs:List (Int×Int)):List (PyData×PyData):=kvs.map λp=>(Qe p.1,Qe p.2)
mutual
inductive DA (A:Addr->Prop) (H:Hp):V->PyData->Prop
 |non:DA A H .non .none
 |bl (b:Bool):DA A H (.bl b) (.bool b)
 |int (i:Int):DA A H (.int i) (.int i)
 |str (x:Str):Yp (.str x)=true->DA A H (.str x) (.str x)
 |tup {a:Addr} {xs:List V} {ds:List PyData}:¬A a->H a=some (.tup xs)->DAs A H xs ds->DA A H (.ref a) (.tuple ds)
 |lst {a:Addr} {xs:List V} {ds:List PyData}:¬A a->H a=some (.lst xs)->DAs A H xs ds->DA A H (.ref a) (.list ds)
 |dct {a:Addr} {kvs:List (Int×Int)} {ds:List (PyData×PyData)}:¬A a->H a=some (.dK (dkV kvs))->ds=dkD kvs->DA A H (.ref a) (.dict ds)
inductive DAs (A:Addr->Prop) (H:Hp):List V->List PyData->Prop
 |nil:DAs A H [] []
 |cons {x:V} {xs:List V} {d:PyData} {ds:List PyData}:DA A H x d->DAs A H xs ds->DAs A H (x::xs) (d::ds)
end
mutual
theorem QtR{A A':Addr->Prop}{H H':Hp}(k:∀a o,¬A a->H a=some o->H' a=some o)(m:∀a,A' a->A a∨H a=none):∀(d:PyData)(x:V),DA A H x d->DA A' H' x d
 |.none,_,.non=>.non
 |.bool _,_,.bl _=>.bl _
 |.int _,_,.int _=>.int _
 |.str _,_,.str _ c=>.str _ c
 |.tuple ds,_,.tup (xs:=xs) n e q=>.tup (λz=>(m _ z).elim n λz=>by rw[z] at e;cases e) (k _ _ n e) (Qhd k m ds xs q)
 |.list ds,_,.lst (xs:=xs) n e q=>.lst (λz=>(m _ z).elim n λz=>by rw[z] at e;cases e) (k _ _ n e) (Qhd k m ds xs q)
 |.dict _,_,.dct n e q=>.dct (λz=>(m _ z).elim n λz=>by rw[z] at e;cases e) (k _ _ n e) q
theorem Qhd{A A':Addr->Prop}{H H':Hp}(k:∀a o,¬A a->H a=some o->H' a=some o)(m:∀a,A' a->A a∨H a=none):∀(ds:List PyData)(xs:List V),DAs A H xs ds->DAs A' H' xs ds
 |[],_,.nil=>.nil
 |d::ds,_,.cons (x:=x) (xs:=xs) q qs=>.cons (QtR k m d x q) (Qhd k m ds xs qs)
end
theorem DA.mv{A A':Addr->Prop}{H H':Hp}{x:V}{d:PyData}(q:DA A H x d)(k:∀a o,¬A a->H a=some o->H' a=some o)(m:∀a,A' a->A a∨H a=none):DA A' H' x d:=QtR k m d x q
theorem DAs.mv{A A':Addr->Prop}{H H':Hp}{x:List V}{d:List PyData}(q:DAs A H x d)(k:∀a o,¬A a->H a=some o->H' a=some o)(m:∀a,A' a->A a∨H a=none):DAs A' H' x d:=Qhd k m d x q
theorem DA.same{A:Addr->Prop}{H H':Hp}{x:V}{d:PyData}(q:DA A H x d)(s:Same H H'):DA A H' x d:=q.mv (λa o _ e=>s a o e) λa z=>.inl z
theorem DAs.same{A:Addr->Prop}{H H':Hp}{x:List V}{d:List PyData}(q:DAs A H x d)(s:Same H H'):DAs A H' x d:=q.mv (λa o _ e=>s a o e) λa z=>.inl z
theorem DAs.length{A:Addr->Prop}{H:Hp}:∀{xs:List V}{ds:List PyData},DAs A H xs ds->xs.length=ds.length
 |_,_,.nil=>rfl
 |_,_,.cons _ q=>by rw[Q4,Q4,q.length]
theorem DAs.get{A:Addr->Prop}{H:Hp}:∀{xs:List V}{ds:List PyData},DAs A H xs ds->∀(i:Nat)(d:PyData),ds[i]? = some d->∃x,xs[i]? = some x/\DA A H x d
 |_,_,.nil,i,x,e=>by simp at e
 |_,_,.cons q qs,0,x,e=>by simp at e;subst e;exact⟨_,rfl,q⟩
 |_,_,.cons q qs,i+1,x,e=>qs.get i x (by simpa using e)
theorem DAs.app{A:Addr->Prop}{H:Hp}:∀{xs ys:List V}{ds es:List PyData},DAs A H xs ds->DAs A H ys es->DAs A H (xs++ys) (ds++es)
 |_,_,_,_,.nil,q=>q
 |_,_,_,_,.cons a b,q=>.cons a (b.app q)
theorem DAs.take{A:Addr->Prop}{H:Hp}:∀{xs:List V}{ds:List PyData},DAs A H xs ds->∀n:Nat,DAs A H (xs.take n) (ds.take n)
 |_,_,.nil,n=>by rw[Quj,Quj];exact .nil
 |_,_,.cons a b,0=>.nil
 |_,_,.cons a b,n+1=>.cons a (b.take n)
theorem DAs.drop{A:Addr->Prop}{H:Hp}:∀{xs:List V}{ds:List PyData},DAs A H xs ds->∀n:Nat,DAs A H (xs.drop n) (ds.drop n)
 |_,_,.nil,n=>by rw[Quk,Quk];exact .nil
 |_,_,.cons a b,0=>.cons a b
 |_,_,.cons a b,n+1=>b.drop n
theorem DAs.set{A:Addr->Prop}{H:Hp}{x:V}{d:PyData}(q:DA A H x d):∀{xs:List V}{ds:List PyData},DAs A H xs ds->∀n:Nat,DAs A H (xs.set n x) (ds.set n d)
 |_,_,.nil,n=>.nil
 |_,_,.cons a b,0=>.cons q b
 |_,_,.cons a b,n+1=>.cons a (b.set q n)
mutual
def nd:PyData->Bool
 |.dict _=>false
 |.tuple ds=>nds ds
 |.list ds=>nds ds
 |_=>true
def nds:List PyData->Bool
 |[]=>true
 |d::ds=>nd d&&nds ds
end
mutual
theorem Qn6{A:Addr->Prop}{H:Hp}:∀(d:PyData)(x:V),nd d=true->DA A H x d->Dat H x d
 |.none,_,_,.non=>.non
 |.bool _,_,_,.bl _=>.bl _
 |.int _,_,_,.int _=>.int _
 |.str _,_,_,.str _ c=>.str _ c
 |.tuple ds,_,n,.tup (xs:=xs) _ e q=>.tup e (QaN ds xs n q)
 |.list ds,_,n,.lst (xs:=xs) _ e q=>.lst e (QaN ds xs n q)
theorem QaN{A:Addr->Prop}{H:Hp}:∀(ds:List PyData)(xs:List V),nds ds=true->DAs A H xs ds->Dats H xs ds
 |[],_,_,.nil=>.nil
 |d::ds,_,n,.cons (x:=x) (xs:=xs) q qs=>by
  have n':=QC.mp (show(nd d&&nds ds)=true from n);exact .cons (Qn6 d x n'.1 q) (QaN ds xs n'.2 qs)
end
theorem Qj2{ds:List PyData}:nds ds=true↔∀d∈ds,nd d=true:=by
 induction ds with
 |nil=>exact⟨(λ_ _ h=>nomatch h),λ_=>rfl⟩
 |cons d ds ih=>
  rw[show nds (d::ds)=(nd d&&nds ds) from rfl,QC,ih];constructor
  ·rintro⟨a,b⟩ e he;rcases Qx.mp he with z | z
   ·rw[z];exact a
   ·exact b e z
  ·intro h;exact⟨h d (by simp),λe he=>h e (by simp[he])⟩
def DP(A P:Addr->Prop)(H:Hp)(v:V)(d:PyData):Prop:=DA A H v d∨∃l xs ds,v=.ref l/\d=.list ds/\¬P l/\H l=some (.lst xs)/\DAs A H xs ds
theorem DP.dat{A P:Addr->Prop}{H:Hp}{v:V}{d:PyData}(h:DP A P H v d)(n:nd d=true):Dat H v d:=by
 rcases h with h | ⟨l,xs,ds,rfl,rfl,_,e,q⟩
 ·exact Qn6 d v n h
 ·exact .lst e (QaN ds xs n q)
theorem DP.list{A P:Addr->Prop}{H:Hp}{v:V}{ds:List PyData}(h:DP A P H v (.list ds)):∃l xs,v=.ref l/\H l=some (.lst xs)/\DAs A H xs ds:=by
 rcases h with h | ⟨l,xs,ds',rfl,e,_,h2,q⟩
 ·cases h with | lst n e q=>exact⟨_,_,rfl,e,q⟩
 ·cases e;exact⟨l,xs,rfl,h2,q⟩
theorem DP.tuple{A P:Addr->Prop}{H:Hp}{v:V}{ds:List PyData}(h:DP A P H v (.tuple ds)):∃l xs,v=.ref l/\H l=some (.tup xs)/\DAs A H xs ds:=by
 rcases h with h | ⟨l,xs,ds',rfl,e,_⟩
 ·cases h with | tup n e q=>exact⟨_,_,rfl,e,q⟩
 ·cases e
theorem DP.int{A P:Addr->Prop}{H:Hp}{v:V}{i:Int}(h:DP A P H v (.int i)):v=.int i:=by
 rcases h with h | ⟨l,xs,ds',rfl,e,_⟩
 ·cases h;rfl
 ·cases e
theorem DP.bool{A P:Addr->Prop}{H:Hp}{v:V}{i:Bool}(h:DP A P H v (.bool i)):v=.bl i:=by
 rcases h with h | ⟨l,xs,ds',rfl,e,_⟩
 ·cases h;rfl
 ·cases e
theorem DP.none{A P:Addr->Prop}{H:Hp}{v:V}(h:DP A P H v .none):v=.non:=by
 rcases h with h | ⟨l,xs,ds',rfl,e,_⟩
 ·cases h;rfl
 ·cases e
theorem DP.str{A P:Addr->Prop}{H:Hp}{v:V}{x:Str}(h:DP A P H v (.str x)):v=.str x/\Yp (.str x)=true:=by
 rcases h with h | ⟨l,xs,ds',rfl,e,_⟩
 ·cases h with | str _ c=>exact⟨rfl,c⟩
 ·cases e
inductive Sl where
 |no | pot | scr
 |v (d:PyData)
 |own (ds:List PyData)
 |pk (ds:List PyData)
abbrev Sts:=List Sl
structure Fm where
 H0:Hp
 A0:Addr->Prop
 pt:Addr->Prop
def QwT(σ:L2.St)(δ:Sts)(i:Nat)(a:Addr):Prop:=σ[i]? = some (some (.ref a))/\(δ[i]? = some .pot∨∃ds,δ[i]? = some (.own ds))
def Av(F:Fm)(σ:L2.St)(δ:Sts)(a:Addr):Prop:=F.A0 a∨∃i,QwT σ δ i a
def ZD(σ:L2.St)(δ:Sts)(a:Addr):Prop:=∃i:Nat,σ[i]? = some (some (.ref a))/\δ[i]? = some .pot
def QwR(K:PySem.W.Frag)(F:Fm)(H:Hp)(A:Addr->Prop)(o:Option V):Sl->Prop
 |.no=>True
 |.v d=>∃v,o=some v/\DA A H v d
 |.own ds=>∃l xs,o=some (.ref l)/\H l=some (.lst xs)/\DAs A H xs ds/\F.H0 l=none
 |.pk ds=>∃l xs,o=some (.ref l)/\H l=some (.lst xs)/\DAs A H xs ds/\∃ys,F.H0 l=some (.lst ys)/\¬F.pt l
 |.pot=>∃p n,o=some (.ref p)/\H p=some (.lst [.int n])/\(F.pt p∨F.H0 p=none)
 |.scr=>∃a ns,o=some (.ref a)/\SqL K F.H0 a ((ns:List Int).map V.int)/\¬F.pt a/\ns.length<=63
structure Rel (K:PySem.W.Frag) (F:Fm) (σ:L2.St) (H:Hp) (δ:Sts):Prop where
 len:σ.length=δ.length
 dom:∀a,F.A0 a->∃xs,H a=some (.lst xs)
 dom0:∀a,F.A0 a->∃xs,F.H0 a=some (.lst xs)
 pt0:∀p,F.pt p->F.A0 p/\∃n,H p=some (.lst [.int n])
 kx:∀b o,¬F.pt b->F.H0 b=some o->H b=some o
 sl:∀(i:Nat) o x,σ[i]? = some o->δ[i]? = some x->QwR K F H (Av F σ δ) o x
 inj:∀(i j:Nat) a ds,δ[i]? = some (.own ds)->σ[i]? = some (some (.ref a))->QwT σ δ j a->i=j
def Kp(σ:L2.St)(δ:Sts)(H H':Hp):Prop:=(∀b o,¬ZD σ δ b->H b=some o->H' b=some o)/\∀b,ZD σ δ b->∃n,H' b=some (.lst [.int n])
def Stp(F:Fm)(σ:L2.St)(H:Hp)(δ:Sts)(σ':L2.St)(H':Hp)(δ':Sts):Prop:=(∀b o,¬Av F σ δ b->H b=some o->H' b=some o)/\∀b,Av F σ' δ' b->Av F σ δ b∨H b=none
def Ke(F:Fm)(H':Hp):Prop:=(∀b o,¬F.pt b->F.H0 b=some o->H' b=some o)/\∀p,F.pt p->∃n,H' p=some (.lst [.int n])
theorem ZW{F:Fm}{σ:L2.St}{δ:Sts}{a:Addr}(h:ZD σ δ a):Av F σ δ a:=let ⟨i,h1,h2⟩:=h;.inr ⟨i,h1,.inl h2⟩
theorem Rel.ke{K:PySem.W.Frag}{F:Fm}{σ:L2.St}{H:Hp}{δ:Sts}(r:Rel K F σ H δ):Ke F H:=⟨r.kx,λp hp=>(r.pt0 p hp).2⟩
theorem Rel.isl{K:PySem.W.Frag}{F:Fm}{σ:L2.St}{H:Hp}{δ:Sts}(r:Rel K F σ H δ){a:Addr}(h:Av F σ δ a):∃xs,H a=some (.lst xs):=by
 rcases h with h | ⟨i,h1,h2⟩
 ·exact r.dom a h
 ·rcases h2 with h2 | ⟨ds,h2⟩
  ·obtain⟨p,n,e,h,_⟩:=r.sl i _ _ h1 h2;cases e;exact⟨_,h⟩
  ·obtain⟨l,xs,e,h,_⟩:=r.sl i _ _ h1 h2;cases e;exact⟨_,h⟩
theorem Kp.refl{K:PySem.W.Frag}{F:Fm}{σ:L2.St}{H:Hp}{δ:Sts}(r:Rel K F σ H δ):Kp σ δ H H:=⟨λ_ _ _ e=>e,λb ⟨i,h1,h2⟩=>by
 obtain⟨p,n,e,h,_⟩:=r.sl i _ _ h1 h2;cases e;exact⟨n,h⟩⟩
theorem Kp.trans{σ:L2.St}{δ:Sts}{H H1 H2:Hp}(a:Kp σ δ H H1)(b:Kp σ δ H1 H2):Kp σ δ H H2:=⟨λc o n e=>b.1 c o n (a.1 c o n e),b.2⟩
theorem Kp.same{K:PySem.W.Frag}{F:Fm}{σ:L2.St}{H H':Hp}{δ:Sts}(r:Rel K F σ H δ)(s:Same H H'):Kp σ δ H H':=⟨λb o _ e=>s b o e,λb hb=>let ⟨n,h⟩:=(Kp.refl r).2 b hb;⟨n,s _ _ h⟩⟩
theorem Kp.da{F:Fm}{σ:L2.St}{H H':Hp}{δ:Sts}{v:V}{d:PyData}(k:Kp σ δ H H')(h:DA (Av F σ δ) H v d):DA (Av F σ δ) H' v d:=h.mv (λa o n e=>k.1 a o (λz=>n (ZW z)) e) λa z=>.inl z
theorem Kp.das{F:Fm}{σ:L2.St}{H H':Hp}{δ:Sts}{v:List V}{d:List PyData}(k:Kp σ δ H H')(h:DAs (Av F σ δ) H v d):DAs (Av F σ δ) H' v d:=h.mv (λa o n e=>k.1 a o (λz=>n (ZW z)) e) λa z=>.inl z
theorem Kp.dp{F:Fm}{σ:L2.St}{H H':Hp}{δ:Sts}{v:V}{d:PyData}(k:Kp σ δ H H')(h:DP (Av F σ δ) (ZD σ δ) H v d):DP (Av F σ δ) (ZD σ δ) H' v d:=by
 rcases h with h | ⟨l,xs,ds,e1,e2,n,e,q⟩
 ·exact .inl (k.da h)
 ·exact .inr ⟨l,xs,ds,e1,e2,n,k.1 _ _ n e,k.das q⟩
theorem Rel.own_pot{K:PySem.W.Frag}{F:Fm}{σ:L2.St}{H:Hp}{δ:Sts}(r:Rel K F σ H δ){i:Nat}{ds:List PyData}{l:Addr}(h:δ[i]? = some (.own ds))(e:σ[i]? = some (some (.ref l))):¬ZD σ δ l:=by
 rintro⟨j,h1,h2⟩;have:=r.inj i j l _ h e ⟨h1,.inl h2⟩;subst this;rw[h] at h2;cases h2
theorem Rel.pt_pot{K:PySem.W.Frag}{F:Fm}{σ:L2.St}{H H':Hp}{δ:Sts}(r:Rel K F σ H δ)(k:Kp σ δ H H'){p:Addr}(hp:F.pt p):∃n,H' p=some (.lst [.int n]):=by
 by_cases z:ZD σ δ p
 ·exact k.2 p z
 ·obtain⟨n,e⟩:=(r.pt0 p hp).2;exact⟨n,k.1 _ _ z e⟩
theorem Rel.kp{K:PySem.W.Frag}{F:Fm}{σ:L2.St}{H H':Hp}{δ:Sts}(r:Rel K F σ H δ)(k:Kp σ δ H H'):Rel K F σ H' δ where
 len:=r.len
 dom:=λa ha=>by
  by_cases z:ZD σ δ a
  ·exact⟨_,(k.2 a z).choose_spec⟩
  ·obtain⟨xs,e⟩:=r.dom a ha;exact⟨xs,k.1 _ _ z e⟩
 dom0:=r.dom0
 pt0:=λp hp=>⟨(r.pt0 p hp).1,r.pt_pot k hp⟩
 kx:=λb o n e=>by
  by_cases z:ZD σ δ b
  ·obtain⟨i,h1,h2⟩:=z;obtain⟨p,m,e1,h,q⟩:=r.sl i _ _ h1 h2;cases e1;rcases q with q | q
   ·exact absurd q n
   ·rw[q] at e;cases e
  ·exact k.1 _ _ z (r.kx b o n e)
 sl:=λi o x h1 h2=>by
  have h:=r.sl i o x h1 h2;cases x with
  |no=>trivial
  |v d=>obtain⟨v,e,q⟩:=h;exact⟨v,e,k.da q⟩
  |own ds=>obtain⟨l,xs,rfl,e,q,f⟩:=h;exact⟨l,xs,rfl,k.1 _ _ (r.own_pot h2 h1) e,k.das q,f⟩
  |pk ds=>
   obtain⟨l,xs,rfl,e,q,ys,f,f2⟩:=h;refine⟨l,xs,rfl,k.1 _ _ ?_ e,k.das q,ys,f,f2⟩;rintro⟨j,j1,j2⟩;obtain⟨p,m,e1,_,w⟩:=r.sl j _ _ j1 j2;cases e1;rcases w with w | w
   ·exact f2 w
   ·rw[w] at f;cases f
  |pot=>
   obtain⟨p,n,rfl,e,q⟩:=h;obtain⟨m,e'⟩:=k.2 p ⟨i,h1,h2⟩;exact⟨p,m,rfl,e',q⟩
  |scr=>exact h
 inj:=r.inj
theorem Rel.same{K:PySem.W.Frag}{F:Fm}{σ:L2.St}{H H':Hp}{δ:Sts}(r:Rel K F σ H δ)(s:Same H H'):Rel K F σ H' δ:=r.kp (Kp.same r s)
theorem Stp.refl{F:Fm}{σ:L2.St}{H:Hp}{δ:Sts}:Stp F σ H δ σ H δ:=⟨λ_ _ _ e=>e,λ_ z=>.inl z⟩
theorem Stp.trans{F:Fm}{σ σ1 σ2:L2.St}{H H1 H2:Hp}{δ δ1 δ2:Sts}(a:Stp F σ H δ σ1 H1 δ1)(b:Stp F σ1 H1 δ1 σ2 H2 δ2):Stp F σ H δ σ2 H2 δ2:=by
 refine⟨λc o n e=>?_,λc z=>?_⟩
 ·refine b.1 c o (λz=>?_) (a.1 c o n e);rcases a.2 c z with q | q
  ·exact n q
  ·rw[q] at e;cases e
 ·rcases b.2 c z with q | q
  ·exact a.2 c q
  ·by_cases y:Av F σ δ c
   ·exact .inl y
   ·right
    cases e:H c with
    |none=>rfl
    |some o=>rw[a.1 c o y e] at q;cases q
theorem Stp.kp{F:Fm}{σ:L2.St}{H H':Hp}{δ:Sts}(k:Kp σ δ H H'):Stp F σ H δ σ H' δ:=⟨λb o n e=>k.1 b o (λz=>n (ZW z)) e,λ_ z=>.inl z⟩
theorem Stp.da{F:Fm}{σ σ':L2.St}{H H':Hp}{δ δ':Sts}{v:V}{d:PyData}(k:Stp F σ H δ σ' H' δ')(h:DA (Av F σ δ) H v d):DA (Av F σ' δ') H' v d:=h.mv k.1 k.2
abbrev XP:=Addr->Prop
abbrev DE:=Sts->(PyData->Prop)->XP->Prop
abbrev DT:=Sts->(Bool->Prop)->XP->Prop
abbrev DAr:=Sts->(List PyData->Prop)->XP->Prop
abbrev DSl:=Sts->(List Sl->Prop)->XP->Prop
inductive Md where | D | P | F
def FrV(H H':Hp)(v:V):Prop:=∀l,v=.ref l->(∃xs,H' l=some (.lst xs))->H l=none
def Vok(m:Md)(F:Fm)(σ:L2.St)(δ:Sts)(H H':Hp)(v:V)(d:PyData):Prop:=
 match m with
 |.D=>DA (Av F σ δ) H' v d
 |.P=>DP (Av F σ δ) (ZD σ δ) H' v d
 |.F=>DA (Av F σ δ) H' v d/\FrV H H' v
def Out(F:Fm)(E:XK)(EX:XP):Prop:=∀C,EX C->∀H',Ke F H'->E (.ref C) none H'
def tX(m:Md)(K:PySem.W.Frag)(E:XK)(w:DE):TE:=λσ H Q=>∃(F:Fm)(δ:Sts)(R:PyData->Prop)(EX:XP),Rel K F σ H δ/\w δ R EX/\(∀d,R d->∀v H',Rel K F σ H' δ->Kp σ δ H H'->Vok m F σ δ H H' v d->Q v H')/\Out F E EX
def tT(K:PySem.W.Frag)(E:XK)(w:DT):TT:=λσ H Q=>∃(F:Fm)(δ:Sts)(R:Bool->Prop)(EX:XP),Rel K F σ H δ/\w δ R EX/\(∀b,R b->∀H',Rel K F σ H' δ->Kp σ δ H H'->Q b H')/\Out F E EX
def VD(m:Md)(A P:Addr->Prop)(H:Hp)(v:V)(d:PyData):Prop:=
 match m with
 |.P=>DP A P H v d
 |_=>DA A H v d
def tAr(n:Nat)(m:Md)(K:PySem.W.Frag)(E:XK)(w:DAr):TA:=λσ H Q=>∃(F:Fm)(δ:Sts)(R:List PyData->Prop)(EX:XP),Rel K F σ H δ/\w δ R EX/\(∀ds,R ds->ds.length=n->∀vs H',Rel K F σ H' δ->Kp σ δ H H'->ZQ (VD m (Av F σ δ) (ZD σ δ) H') vs ds->Q vs H')/\Out F E EX
def QfI(A pt:Addr->Prop)(H:Hp)(v:V):Sl->Prop
 |.v d=>DA A H v d
 |.pot=>∃p,v=.ref p/\pt p
 |_=>False
def tAs(K:PySem.W.Frag)(E:XK)(w:DSl):TA:=λσ H Q=>∃(F:Fm)(δ:Sts)(R:List Sl->Prop)(EX:XP),Rel K F σ H δ/\w δ R EX/\(∀ds,R ds->∀vs H',Rel K F σ H' δ->Kp σ δ H H'->ZQ (QfI (Av F σ δ) (ZD σ δ) H') vs ds->Q vs H')/\Out F E EX
theorem Kp.vd{m:Md}{F:Fm}{σ:L2.St}{H H':Hp}{δ:Sts}{v:V}{d:PyData}(k:Kp σ δ H H')(h:VD m (Av F σ δ) (ZD σ δ) H v d):VD m (Av F σ δ) (ZD σ δ) H' v d:=by
 cases m
 ·exact k.da h
 ·exact k.dp h
 ·exact k.da h
theorem Kp.arg{F:Fm}{σ:L2.St}{H H':Hp}{δ:Sts}{v:V}{d:Sl}(k:Kp σ δ H H')(h:QfI (Av F σ δ) (ZD σ δ) H v d):QfI (Av F σ δ) (ZD σ δ) H' v d:=by
 cases d with
 |v d=>exact k.da h
 |pot=>exact h
 |_=>exact h.elim
def QbC(H:Hp):Prop:=∀a xs,H a=some (.lst xs)∨H a=some (.tup xs)->xs.length<=sizeLine
section
variable{X:Cx}{E:XK}
theorem Inv.lens{pins:List (Addr×Obj)}{σ:L2.St}{H:Hp}{s:Shared}(I:Inv X pins σ H s):QbC H:=λa xs h=>by
 rcases h with h | h
 ·exact(I.hok a _ h).1
 ·exact(I.hok a _ h).1
theorem PE.imp{e:QL}{t t':TE}(h:PE X e t)(i:∀σ H Q,t' σ H Q->t σ H Q):PE X e t':=λpins s σ H Q I q=>h pins s σ H Q I (i σ H Q q)
theorem PT.imp{e:QL}{t t':TT}(h:PT X e t)(i:∀σ H Q,t' σ H Q->t σ H Q):PT X e t':=λpins s σ H Q I q=>h pins s σ H Q I (i σ H Q q)
theorem PW.imp{e:QL}{t t':TT}(h:PW X e t)(i:∀σ H Q,t' σ H Q->t σ H Q):PW X e t':=λwh pins s σ H Q I q=>h wh pins s σ H Q I (i σ H Q q)
theorem PA.imp{e:List QL}{t t':TA}(h:PA X e t)(i:∀σ H Q,t' σ H Q->t σ H Q):PA X e t':=λpos pins s σ H Q I q=>h pos pins s σ H Q I (i σ H Q q)
theorem OpR.len{f:Value->Value->Sem Value}{r:R2}(h:OpR X f r):OpR X f (λx y H Q=>QbC H->r x y H Q):=λpins s σ H x y v u Q I rx ry q=>h pins s σ H x y v u Q I rx ry (q (Inv.lens I))
theorem CallR.len{f:Value}{r:List V->Hp->VK->Prop}(h:CallR X f r):CallR X f (λxs H Q=>QbC H->r xs H Q):=λpins s σ H xs us Q I rx q=>h pins s σ H xs us Q I rx (q (Inv.lens I))
theorem IxR.len{r:R2}(h:IxR X r):IxR X (λx y H Q=>QbC H->r x y H Q):=λa b pins s σ H x y v u Q I rx ry q hs=>h a b pins s σ H x y v u Q I rx ry (q (Inv.lens I)) hs
theorem OpR.or2{f:Value->Value->Sem Value}{r r':R2}(h:OpR X f r)(h':OpR X f r'):OpR X f (λx y H Q=>r x y H Q∨r' x y H Q):=OpR.or h h'
theorem IxR.or2{r r':R2}(h:IxR X r)(h':IxR X r'):IxR X (λx y H Q=>r x y H Q∨r' x y H Q):=λa b pins s σ H x y v u Q I rx ry q hs=>q.elim (λq=>h a b pins s σ H x y v u Q I rx ry q hs) λq=>h' a b pins s σ H x y v u Q I rx ry q hs
theorem SlR.or2{r r':V->Option Int->Option Int->Hp->VK->Prop}(h:SlR X r)(h':SlR X r'):SlR X (λx a b H Q=>r x a b H Q∨r' x a b H Q):=λpins s σ H x v vl vu lo hi sl Q I rx hs pl pu q=>q.elim (h pins s σ H x v vl vu lo hi sl Q I rx hs pl pu) (h' pins s σ H x v vl vu lo hi sl Q I rx hs pl pu)
theorem toD{e:QL}{w:DE}(h:PE X e (tX .F X.K E w)):PE X e (tX .D X.K E w):=PE.imp h λσ H Q ⟨F,δ,R,EX,r,hw,k,o⟩=>⟨F,δ,R,EX,r,hw,λd hd v H' r' kp vk=>k d hd v H' r' kp vk.1,o⟩
theorem toP{e:QL}{w:DE}(h:PE X e (tX .D X.K E w)):PE X e (tX .P X.K E w):=PE.imp h λσ H Q ⟨F,δ,R,EX,r,hw,k,o⟩=>⟨F,δ,R,EX,r,hw,λd hd v H' r' kp vk=>k d hd v H' r' kp (.inl vk),o⟩
theorem QwX{e:QL}{w:DE}(h:PE X e (tX .F X.K E w)):PE X e (tX .P X.K E w):=toP (toD h)
def Qv3(i:Nat):DE:=λδ Q _=>match δ[i]? with
 |some (.v d)=>Q d
 |_=>False
def dPk(i:Nat):DE:=λδ Q _=>match δ[i]? with
 |some (.v d)=>Q d
 |some (.own ds)=>Q (.list ds)
 |some (.pk ds)=>Q (.list ds)
 |_=>False
def dC(d:PyData):DE:=λ_ Q _=>Q d
theorem Rel.lt{K:PySem.W.Frag}{F:Fm}{σ:L2.St}{H:Hp}{δ:Sts}(r:Rel K F σ H δ){i:Nat}{x:Sl}(h:δ[i]? = some x):∃o,σ[i]? = some o:=by
 have:=(Qw.mp h).1;exact⟨σ[i]'(by rw[r.len];exact this),Qm _⟩
theorem QsR{e:QL}{i:Nat}(h:PE X e (Qiu i)):PE X e (tX .D X.K E (Qv3 i)):=PE.imp h λσ H Q ⟨F,δ,R,EX,r,hw,k,o⟩=>by
 unfold Qv3 at hw;split at hw
 ·rename_i d hd
  obtain⟨x,hx⟩:=r.lt hd;obtain⟨v,rfl,q⟩:=r.sl i _ _ hx hd;exact⟨v,hx,k d hw v H r (Kp.refl r) q⟩
 ·exact hw.elim
theorem QvB{e:QL}{i:Nat}(h:PE X e (Qiu i)):PE X e (tX .P X.K E (dPk i)):=PE.imp h λσ H Q ⟨F,δ,R,EX,r,hw,k,o⟩=>by
 unfold dPk at hw;split at hw
 ·rename_i d hd
  obtain⟨x,hx⟩:=r.lt hd;obtain⟨v,rfl,q⟩:=r.sl i _ _ hx hd;exact⟨v,hx,k d hw v H r (Kp.refl r) (.inl q)⟩
 ·rename_i d hd
  obtain⟨x,hx⟩:=r.lt hd;obtain⟨l,xs,rfl,e,q,_⟩:=r.sl i _ _ hx hd;exact⟨_,hx,k _ hw _ H r (Kp.refl r) (.inr ⟨l,xs,d,rfl,rfl,r.own_pot hd hx,e,q⟩)⟩
 ·rename_i d hd
  obtain⟨x,hx⟩:=r.lt hd;obtain⟨l,xs,rfl,e,q,ys,f,f2⟩:=r.sl i _ _ hx hd;refine⟨_,hx,k _ hw _ H r (Kp.refl r) (.inr ⟨l,xs,d,rfl,rfl,?_,e,q⟩)⟩;rintro⟨j,j1,j2⟩;obtain⟨p,m,e1,_,w⟩:=r.sl j _ _ j1 j2;cases e1;rcases w with w | w
  ·exact f2 w
  ·rw[w] at f;cases f
 ·exact hw.elim
theorem Qs3{e:QL}{v:V}{d:PyData}(h:PE X e (tC v))(q:∀(A:Addr->Prop)(H:Hp),DA A H v d):PE X e (tX .D X.K E (dC d)):=PE.imp h λσ H Q ⟨F,δ,R,EX,r,hw,k,o⟩=>k d hw v H r (Kp.refl r) (q _ _)
theorem QsZ{i:Int}{j pos}:PE X (.Constant (.int i) j pos) (tX .D X.K E (dC (.int i))):=Qs3 ZX λ_ _=>.int i
theorem QvF{b:Bool}{j pos}:PE X (.Constant (.bool b) j pos) (tX .D X.K E (dC (.bool b))):=Qs3 Qpe λ_ _=>.bl b
theorem QsW{j pos}:PE X (.Constant .none j pos) (tX .D X.K E (dC .none)):=Qs3 QsL λ_ _=>.non
theorem QsT{x:Str}{j pos}(h:Yp (.str x)=true:=by decide +kernel):PE X (.Constant (.str x) j pos) (tX .D X.K E (dC (.str x))):=Qs3 QgW λ_ _=>.str x h
def OpD(r:R2)(rD:PyData->PyData->(PyData->Prop)->Prop):Prop:=∀(A P:Addr->Prop)(H:Hp)(x y:V)(d1 d2:PyData)(R:PyData->Prop)(Q:VK),QbC H->(∀a,A a->∃xs,H a=some (.lst xs))->DP A P H x d1->DP A P H y d2->rD d1 d2 R ->
 (∀d,R d->∀v H',Same H H'->DA A H' v d->FrV H H' v->Q v H')->r x y H Q
def QrG(r:R2)(rD:PyData->PyData->(PyData->Prop)->Prop):Prop:=∀(A P:Addr->Prop)(H:Hp)(x y:V)(d1 d2:PyData)(R:PyData->Prop)(Q:VK),QbC H->(∀a,A a->∃xs,H a=some (.lst xs))->DP A P H x d1->DP A P H y d2->rD d1 d2 R ->
 (∀d,R d->∀v H',Same H H'->DA A H' v d->Q v H')->r x y H Q
def dOp(rD:PyData->PyData->(PyData->Prop)->Prop)(wa wb:DE):DE:=λδ Q EX=>wa δ (λd1=>wb δ (λd2=>rD d1 d2 Q) EX) EX
theorem Qgb{K:PySem.W.Frag}{r:R2}{rD:PyData->PyData->(PyData->Prop)->Prop}{wa wb:DE}(hd:OpD r rD)(σ:L2.St)(H:Hp)(Q:VK)(h:tX .F K E (dOp rD wa wb) σ H Q) :
  tOp (λx y H Q=>QbC H->r x y H Q) (tX .P K E wa) (tX .P K E wb) σ H Q:=by
 obtain⟨F,δ,R,EX,rel,hw,k,o⟩:=h;refine⟨F,δ,_,EX,rel,hw,λd1 h1 x H1 rel1 kp1 x1=>⟨F,δ,_,EX,rel1,h1,λd2 h2 y H2 rel2 kp2 y2=>λln=>?_,o⟩,o⟩;refine hd (Av F σ δ) (ZD σ δ) H2 x y d1 d2 R Q ln (λa ha=>rel2.isl ha) (kp2.dp x1) y2 h2 λd hR v H' s q f=>?_
 refine k d hR v H' (rel2.same s) ((kp1.trans kp2).trans (Kp.same rel2 s)) ⟨q,λl e1 e2=>?_⟩;have f2:=f l e1 e2;cases e:H l with
 |none=>rfl
 |some ob=>
  by_cases z:ZD σ δ l
  ·obtain⟨n,en⟩:=kp2.2 l z;rw[en] at f2;cases f2
  ·rw[(kp1.trans kp2).1 _ _ z e] at f2;cases f2
theorem Qmy{K:PySem.W.Frag}{r:R2}{rD:PyData->PyData->(PyData->Prop)->Prop}{wa wb:DE}(hd:QrG r rD)(σ:L2.St)(H:Hp)(Q:VK)(h:tX .D K E (dOp rD wa wb) σ H Q) :
  tOp (λx y H Q=>QbC H->r x y H Q) (tX .P K E wa) (tX .P K E wb) σ H Q:=by
 obtain⟨F,δ,R,EX,rel,hw,k,o⟩:=h;refine⟨F,δ,_,EX,rel,hw,λd1 h1 x H1 rel1 kp1 x1=>⟨F,δ,_,EX,rel1,h1,λd2 h2 y H2 rel2 kp2 y2=>λln=>?_,o⟩,o⟩;refine hd (Av F σ δ) (ZD σ δ) H2 x y d1 d2 R Q ln (λa ha=>rel2.isl ha) (kp2.dp x1) y2 h2 λd hR v H' s q=>?_
 exact k d hR v H' (rel2.same s) ((kp1.trans kp2).trans (Kp.same rel2 s)) q
variable{a b:QL}{wa wb:DE}{pos:Pos}{r:R2}{rD:PyData->PyData->(PyData->Prop)->Prop}
theorem Qs4{op:Qd4}(ho:OpR X (binaryOp op) r)(hd:OpD r rD)(ha:PE X a (tX .P X.K E wa))(hb:PE X b (tX .P X.K E wb)):PE X (.BinOp a op b pos) (tX .F X.K E (dOp rD wa wb)):=PE.imp (Yr (OpR.len ho) ha hb) (Qgb hd)
theorem Qs2{op:Qhu}(ho:OpR X (compareOp op) r)(hd:OpD r rD)(ha:PE X a (tX .P X.K E wa))(hb:PE X b (tX .P X.K E wb))(hm:behindInMarks op b=false):PE X (.Compare a [op] [b] pos) (tX .F X.K E (dOp rD wa wb)):=PE.imp (Qpd (OpR.len ho) ha hb hm) (Qgb hd)
theorem QvD{r:R2}{rD:PyData->PyData->(PyData->Prop)->Prop}(ho:IxR X r)(hd:QrG r rD)(ha:PE X a (tX .P X.K E wa))(hb:PE X b (tX .P X.K E wb))(hs:QeJ b):PE X (.Subscript a b pos) (tX .D X.K E (dOp rD wa wb)):=PE.imp (QhM (IxR.len ho) ha hb hs) (Qmy hd)
def dTst(w:DE):DT:=λδ Q EX=>w δ (λd=>match d with
 |.bool k=>Q k
 |_=>False) EX
theorem Qpk{op:Qhu}(ho:OpR X (compareOp op) r)(hd:OpD r rD)(ha:PE X a (tX .P X.K E wa))(hb:PE X b (tX .P X.K E wb))(hm:behindInMarks op b=false):PT X (.Compare a [op] [b] pos) (tT X.K E (dTst (dOp rD wa wb))):=by
 refine PT.imp (Qem (OpR.len ho) ha hb hm) λσ H Q ⟨F,δ,R,EX,rel,hw,k,o⟩=>?_
 refine Qgb hd σ H (λx H'=>∃k,x=.bl k/\Q k H') ⟨F,δ,_,EX,rel,hw,λd hd2 v H' rel' kp vk=>?_,o⟩;split at hd2
 ·rename_i b
  have:v=.bl b:=by cases vk.1;rfl
  exact⟨b,this,k b hd2 H' rel' kp⟩
 ·exact hd2.elim
def tru:PyData->Bool
 |.none=>false
 |.bool b=>b
 |.int i=>i != 0
 |.str y=>(y.length:Int) != 0
 |.list ds => !ds.isEmpty
 |.tuple ds => !ds.isEmpty
 |.dict ds => !ds.isEmpty
def strOk:PyData->Prop
 |.str y=>y.length<=sizeLine
 |_=>True
def dTru(w:DE):DT:=λδ Q EX=>w δ (λd=>strOk d/\Q (tru d)) EX
theorem Qr9{K:PySem.W.Frag}{A P:Addr->Prop}{H:Hp}{v:V}{d:PyData}(h:DP A P H v d)(hs:strOk d):Qv6 K v H (tru d):=by
 have sq:∀{xs:List V}{ds:List PyData},DAs A H xs ds->(!ds.isEmpty) = !xs.isEmpty:=λq=>by cases q<;>rfl
 rcases h with h | ⟨l,xs,ds,rfl,rfl,_,e,q⟩
 ·cases h with
  |non=>rfl
  |bl b=>rfl
  |int i=>rfl
  |str x c=>exact⟨hs,rfl⟩
  |@tup a xs ds n e q=>exact .inr (.inl ⟨xs,SqT.of e,sq q⟩)
  |@lst a xs ds n e q=>exact .inl ⟨xs,SqL.of e,sq q⟩
  |@dct a kvs ds n e q=>subst q;exact .inr (.inr ⟨dkV kvs,e,by cases kvs<;>rfl⟩)
 ·exact .inl ⟨xs,SqL.of e,sq q⟩
theorem Qpi{e:QL}{w:DE}(h:PE X e (tX .P X.K E w))(he:∀whole,isTrue e X.env whole=(do let v <- whole;standAt e.pos;holding [v] (truthy v))):PT X e (tT X.K E (dTru w)):=by
 refine PT.imp (QlW h he) λσ H Q ⟨F,δ,R,EX,rel,hw,k,o⟩=>?_
 exact⟨F,δ,_,EX,rel,hw,λd ⟨hs,hq⟩ v H' rel' kp vk=>⟨tru d,Qr9 vk hs,k _ hq H' rel' kp⟩,o⟩
theorem Qph{e:QL}{w:DE}(h:PE X e (tX .P X.K E w))(he:∀whole,isTrue e X.env whole=(do let v <- whole;standAt e.pos;holding [v] (truthy v)):=by intro _;rfl):PT X e (tT X.K E (dTst w)):=by
 refine PT.imp (QnN h he) λσ H Q ⟨F,δ,R,EX,rel,hw,k,o⟩=>?_
 refine⟨F,δ,_,EX,rel,hw,λd hd v H' rel' kp vk=>?_,o⟩;split at hd
 ·exact⟨_,DP.bool vk,k _ hd H' rel' kp⟩
 ·exact hd.elim
def QwQ(wa wb:DT):DT:=λδ Q EX=>wa δ (λc=>if c=true then wb δ Q EX else Q false) EX
def dOr(wa wb:DT):DT:=λδ Q EX=>wa δ (λc=>if c=true then Q true else wb δ Q EX) EX
def QwH(wa:DT):DT:=λδ Q EX=>wa δ (λc=>Q (!c)) EX
theorem QaY{c:Prop}[Decidable c]{p q p' q':Prop}(h:if c then p else q)(h1:p->p')(h2:q->q'):if c then p' else q':=by
 split at h
 ·rw[if_pos (by assumption)];exact h1 h
 ·rw[if_neg (by assumption)];exact h2 h
variable{rest:List QL}{ta tb:DT}
theorem Qmc(ha:PT X a (tT X.K E ta)):PW X (.BoolOp .And [a] pos) (tT X.K E ta):=QoZ ha
theorem Qpf(ha:PT X a (tT X.K E ta)):PW X (.BoolOp .Or [a] pos) (tT X.K E ta):=QnM ha
theorem Qpg(ha:PT X a (tT X.K E ta))(hb:PW X (.BoolOp .And (b::rest) pos) (tT X.K E tb)):PW X (.BoolOp .And (a::b::rest) pos) (tT X.K E (QwQ ta tb)):=by
 refine PW.imp (QsC ha hb) λσ H Q ⟨F,δ,R,EX,rel,hw,k,o⟩=>?_
 refine⟨F,δ,_,EX,rel,hw,λc hc H' rel' kp=>?_,o⟩;exact QaY hc (λz=>⟨F,δ,R,EX,rel',z,λc hc H2 rel2 kp2=>k c hc H2 rel2 (kp.trans kp2),o⟩) λz=>k _ z H' rel' kp
theorem QsO(ha:PT X a (tT X.K E ta))(hb:PW X (.BoolOp .Or (b::rest) pos) (tT X.K E tb)):PW X (.BoolOp .Or (a::b::rest) pos) (tT X.K E (dOr ta tb)):=by
 refine PW.imp (QsB ha hb) λσ H Q ⟨F,δ,R,EX,rel,hw,k,o⟩=>?_
 refine⟨F,δ,_,EX,rel,hw,λc hc H' rel' kp=>?_,o⟩;exact QaY hc (λz=>k _ z H' rel' kp) (λz=>⟨F,δ,R,EX,rel',z,λc hc H2 rel2 kp2=>k c hc H2 rel2 (kp.trans kp2),o⟩)
theorem Qpj(ha:PT X a (tT X.K E ta)):PT X (.UnaryOp .Not a pos) (tT X.K E (QwH ta)):=by
 refine PT.imp (QnO ha) λσ H Q ⟨F,δ,R,EX,rel,hw,k,o⟩=>?_
 exact⟨F,δ,_,EX,rel,hw,λc hc H' rel' kp=>k _ hc H' rel' kp,o⟩
def QtZ(wa wb:DE):DE:=λδ Q EX=>wa δ (λd=>match d with
 |.bool c=>if c=true then wb δ Q EX else Q (.bool false)
 |_=>False) EX
def QwG(wa wb:DE):DE:=λδ Q EX=>wa δ (λd=>match d with
 |.bool c=>if c=true then Q (.bool true) else wb δ Q EX
 |_=>False) EX
def QtW(wa:DE):DE:=λδ Q EX=>wa δ (λd=>match d with
 |.bool c=>Q (.bool (!c))
 |_=>False) EX
theorem QsU{op}{w:DE}(h:PE X a (tX .D X.K E w)):PE X (.BoolOp op [a] pos) (tX .D X.K E w):=QsJ h
theorem Qs5(ha:PE X a (tX .P X.K E wa))(hb:PE X (.BoolOp .And (b::rest) pos) (tX .D X.K E wb)):PE X (.BoolOp .And (a::b::rest) pos) (tX .D X.K E (QtZ wa wb)):=by
 refine PE.imp (QsN ha hb) λσ H Q ⟨F,δ,R,EX,rel,hw,k,o⟩=>?_
 refine⟨F,δ,_,EX,rel,hw,λd hd v H' rel' kp vk=>?_,o⟩;split at hd
 ·exact⟨_,DP.bool vk,QaY hd (λz=>⟨F,δ,R,EX,rel',z,λd hd v H2 rel2 kp2=>k d hd v H2 rel2 (kp.trans kp2),o⟩) λz=>k _ z _ H' rel' kp (.bl _)⟩
 ·exact hd.elim
theorem QvC(ha:PE X a (tX .P X.K E wa))(hb:PE X (.BoolOp .Or (b::rest) pos) (tX .D X.K E wb)):PE X (.BoolOp .Or (a::b::rest) pos) (tX .D X.K E (QwG wa wb)):=by
 refine PE.imp (Qvz ha hb) λσ H Q ⟨F,δ,R,EX,rel,hw,k,o⟩=>?_
 refine⟨F,δ,_,EX,rel,hw,λd hd v H' rel' kp vk=>?_,o⟩;split at hd
 ·exact⟨_,DP.bool vk,QaY hd (λz=>k _ z _ H' rel' kp (.bl _)) (λz=>⟨F,δ,R,EX,rel',z,λd hd v H2 rel2 kp2=>k d hd v H2 rel2 (kp.trans kp2),o⟩)⟩
 ·exact hd.elim
theorem QsV(ha:PE X a (tX .P X.K E wa)):PE X (.UnaryOp .Not a pos) (tX .D X.K E (QtW wa)):=by
 refine PE.imp (QsK ha) λσ H Q ⟨F,δ,R,EX,rel,hw,k,o⟩=>?_
 refine⟨F,δ,_,EX,rel,hw,λd hd v H' rel' kp vk=>?_,o⟩;split at hd
 ·exact⟨_,DP.bool vk,k _ hd _ H' rel' kp (.bl _)⟩
 ·exact hd.elim
def QwM(t:DT)(wa wb:DE):DE:=λδ Q EX=>t δ (λc=>if c=true then wa δ Q EX else wb δ Q EX) EX
theorem Qs0{c:QL}(hc:PT X c (tT X.K E ta))(ha:PE X a (tX .D X.K E wa))(hb:PE X b (tX .D X.K E wb)):PE X (.IfExp c a b pos) (tX .D X.K E (QwM ta wa wb)):=by
 refine PE.imp (Ql8 hc ha hb) λσ H Q ⟨F,δ,R,EX,rel,hw,k,o⟩=>?_
 refine⟨F,δ,_,EX,rel,hw,λd hd H' rel' kp=>?_,o⟩;exact QaY hd (λz=>⟨F,δ,R,EX,rel',z,λd hd v H2 rel2 kp2=>k d hd v H2 rel2 (kp.trans kp2),o⟩) (λz=>⟨F,δ,R,EX,rel',z,λd hd v H2 rel2 kp2=>k d hd v H2 rel2 (kp.trans kp2),o⟩)
end
theorem Qcj{A:Addr->Prop}{H H':Hp}{l:Addr}{xs:List V}{ds:List PyData}(dm:∀a,A a->∃xs,H a=some (.lst xs))(s:Same H H')(n:H l=none)(e:H' l=some (.lst xs))(q:DAs A H xs ds):DA A H' (.ref l) (.list ds):=
 .lst (λz=>by obtain⟨ys,e'⟩:=dm l z;rw[n] at e';cases e') e (q.same s)
theorem Qdr{A:Addr->Prop}{H H':Hp}{l:Addr}{xs:List V}{ds:List PyData}(dm:∀a,A a->∃xs,H a=some (.lst xs))(s:Same H H')(e:H' l=some (.tup xs))(q:DAs A H xs ds):DA A H' (.ref l) (.tuple ds):=
 .tup (λz=>by obtain⟨ys,e'⟩:=dm l z;rw[s _ _ e'] at e;cases e) e (q.same s)
theorem YY{H H':Hp}{l:Addr}(n:H l=none):FrV H H' (.ref l):=λl' e _=>by cases e;exact n
theorem Qc1{H H':Hp}{l:Addr}{xs:List V}(e:H' l=some (.tup xs)):FrV H H' (.ref l):=λl' e1 ⟨ys,e2⟩=>by cases e1;rw[e] at e2;cases e2
theorem ZI{H H':Hp}{i:Int}:FrV H H' (.int i):=λl' e _=>by cases e
theorem Ym{H H':Hp}{i:Bool}:FrV H H' (.bl i):=λl' e _=>by cases e
theorem Qrg{H H':Hp}:FrV H H' .non:=λl' e _=>by cases e
theorem DAs.rep{A:Addr->Prop}{H:Hp}{xs:List V}{ds:List PyData}(q:DAs A H xs ds):∀k:Nat,DAs A H (Qv k xs).flatten (Qv k ds).flatten
 |0=>.nil
 |k+1=>by rw[Jm,Jm,JW,JW];exact q.app (DAs.rep q k)
def Qxo:PyData->PyData->(PyData->Prop)->Prop
 |.int i,.int j,Q=>Q (.int (i+j))
 |.tuple a,.tuple b,Q=>a.length+b.length<=1000000/\Q (.tuple (a++b))
 |.list a,.list b,Q=>a.length+b.length<=1000000/\Q (.list (a++b))
 |_,_,_=>False
def iiD(C:Int->Int->Prop)(f:Int->Int->PyData):PyData->PyData->(PyData->Prop)->Prop
 |.int i,.int j,Q=>C i j/\Q (f i j)
 |_,_,_=>False
def ii0(f:Int->Int->PyData):PyData->PyData->(PyData->Prop)->Prop
 |.int i,.int j,Q=>Q (f i j)
 |_,_,_=>False
def Qxd:PyData->PyData->(PyData->Prop)->Prop
 |.int i,.int j,Q=>(CMul i j∨CMulB i j)/\Q (.int (i*j))
 |.list a,.int k,Q=>(k<1000000 /\ -1000000<k/\a.length*k.toNat<=1000000)/\Q (.list (Qv k.toNat a).flatten)
 |_,_,_=>False
theorem Qkb:1000000<=sizeLine:=by show 1000000<=2^24;decide
section
variable{X:Cx}{E:XK}
theorem Qtn{C:Int->Int->Prop}{g:Int->Int->Int}:OpD (rI C λi j=>.int (g i j)) (iiD C λi j=>.int (g i j)):=λA P H x y d1 d2 R Q ln dm hx hy h k=>by
 cases d1<;>cases d2<;>first | exact h.elim | skip
 rw[hx.int,hy.int];exact⟨_,_,rfl,rfl,h.1,k _ h.2 _ H (Same.refl H) (.int _) ZI⟩
theorem Qg0{g:Int->Int->Int}:OpD (rI0 λi j=>.int (g i j)) (ii0 λi j=>.int (g i j)):=λA P H x y d1 d2 R Q ln dm hx hy h k=>by
 cases d1<;>cases d2<;>first | exact h.elim | skip
 rw[hx.int,hy.int];exact⟨_,_,rfl,rfl,k _ h _ H (Same.refl H) (.int _) ZI⟩
theorem Qbu{g:Int->Int->Bool}:OpD (rI0 λi j=>.bl (g i j)) (ii0 λi j=>.bool (g i j)):=λA P H x y d1 d2 R Q ln dm hx hy h k=>by
 cases d1<;>cases d2<;>first | exact h.elim | skip
 rw[hx.int,hy.int];exact⟨_,_,rfl,rfl,k _ h _ H (Same.refl H) (.bl _) Ym⟩
def rAdd:R2:=λx y H Q=>(rI0 (λi j=>.int (i+j)) x y H Q∨Qst x y H Q)∨Qwq x y H Q
theorem Z0:OpR X (binaryOp .Add) rAdd:=OpR.or2 (OpR.or2 QdK QpG) QnU
theorem Yx:OpD rAdd Qxo:=λA P H x y d1 d2 R Q ln dm hx hy h k=>by
 cases d1<;>cases d2<;>first | exact h.elim | skip
 ·rw[hx.int,hy.int];exact .inl (.inl ⟨_,_,rfl,rfl,k _ h _ H (Same.refl H) (.int _) ZI⟩)
 ·obtain⟨l1,xs,rfl,e1,q1⟩:=hx.list;obtain⟨l2,ys,rfl,e2,q2⟩:=hy.list;refine .inr ⟨l1,l2,xs,ys,rfl,rfl,e1,e2,QQ (by rw[q1.length,q2.length];exact h.1) Qkb,λp hp=>?_⟩;exact k _ h.2 _ _ (Jk hp) (Qcj dm (Jk hp) hp Jc (q1.app q2)) (YY hp)
 ·obtain⟨l1,xs,rfl,e1,q1⟩:=hx.tuple;obtain⟨l2,ys,rfl,e2,q2⟩:=hy.tuple;refine .inl (.inr ⟨l1,l2,xs,ys,rfl,rfl,e1,e2,QQ (by rw[q1.length,q2.length];exact h.1) Qkb,λp H' s e=>?_⟩);exact k _ h.2 _ _ s (Qdr dm s e (q1.app q2)) (Qc1 e)
def Qsq:R2:=λx y H Q=>(rI CMul (λi j=>.int (i*j)) x y H Q∨rI CMulB (λi j=>.int (i*j)) x y H Q)∨Qwh x y H Q
theorem YW:OpR X (binaryOp .Mult) Qsq:=OpR.or2 (OpR.or2 QdJ QpB) QnT
theorem QaX:OpD Qsq Qxd:=λA P H x y d1 d2 R Q ln dm hx hy h k=>by
 cases d1<;>cases d2<;>first | exact h.elim | skip
 ·rw[hx.int,hy.int];rcases h.1 with c | c
  ·exact .inl (.inl ⟨_,_,rfl,rfl,c,k _ h.2 _ H (Same.refl H) (.int _) ZI⟩)
  ·exact .inl (.inr ⟨_,_,rfl,rfl,c,k _ h.2 _ H (Same.refl H) (.int _) ZI⟩)
 ·obtain⟨l1,xs,rfl,e1,q1⟩:=hx.list;rw[hy.int];obtain⟨⟨h1,h2,h3⟩,h4⟩:=h;refine .inr ⟨l1,_,xs,rfl,rfl,e1,by omega,by omega,QQ (by rw[q1.length];exact h3) Qkb,λp hp=>?_⟩;exact k _ h4 _ _ (Jk hp) (Qcj dm (Jk hp) hp Jc (q1.rep _)) (YY hp)
def eqD:PyData->PyData->(PyData->Prop)->Prop
 |.int i,.int j,Q=>Q (.bool (decide (i=j)))
 |.bool i,.bool j,Q=>Q (.bool (decide (i=j)))
 |.str i,.str j,Q=>Q (.bool (decide (i=j)))
 |a,b,Q=>(nd a=true/\nd b=true/\(a.depth<=50∨b.depth<=50))/\Q (.bool (Jo a b))
def neD:PyData->PyData->(PyData->Prop)->Prop
 |.int i,.int j,Q=>Q (.bool (!decide (i=j)))
 |.bool i,.bool j,Q=>Q (.bool (!decide (i=j)))
 |.str i,.str j,Q=>Q (.bool (!decide (i=j)))
 |a,b,Q=>(nd a=true/\nd b=true/\(a.depth<=50∨b.depth<=50))/\Q (.bool (!Jo a b))
theorem Qto{a b:PyData}(h:a.depth<=50∨b.depth<=50):min a.depth b.depth<=50:=by rcases h with h | h<;>omega
def Qwp(u:Nat):R2:=λx y H Q=>rEq x y H Q∨Qwo u x y H Q
def Qwj(u:Nat):R2:=λx y H Q=>rNe x y H Q∨Qwi u x y H Q
theorem Qci:OpR X (compareOp .Eq) (Qwp X.A.units):=OpR.or2 QvH Qte
theorem QdI:OpR X (compareOp .NotEq) (Qwj X.A.units):=OpR.or2 Qs8 Qs6
theorem QtO{i j:Int}:decide (V.int i=V.int j)=decide (i=j):=by
 by_cases h:i=j
 ·subst h;simp
 ·rw[decide_eq_false h,decide_eq_false (λz=>h (V.int.inj z))]
theorem QtP{i j:Bool}:decide (V.bl i=V.bl j)=decide (i=j):=by
 by_cases h:i=j
 ·subst h;simp
 ·rw[decide_eq_false h,decide_eq_false (λz=>h (V.bl.inj z))]
theorem QtN{i j:Str}:decide (V.str i=V.str j)=decide (i=j):=by
 by_cases h:i=j
 ·subst h;simp
 ·rw[decide_eq_false h,decide_eq_false (λz=>h (V.str.inj z))]
theorem Qfd{u:Nat}(hu:u+60<cLine):OpD (Qwp u) eqD:=λA P H x y d1 d2 R Q ln dm hx hy h k=>by
 unfold eqD at h;split at h
 ·rw[hx.int,hy.int];exact .inl ⟨rfl,k (.bool (decide (V.int _=V.int _))) (by rw[QtO];exact h) _ H (Same.refl H) (.bl _) Ym⟩
 ·rw[hx.bool,hy.bool];exact .inl ⟨rfl,k (.bool (decide (V.bl _=V.bl _))) (by rw[QtP];exact h) _ H (Same.refl H) (.bl _) Ym⟩
 ·rw[hx.str.1,hy.str.1];exact .inl ⟨rfl,k (.bool (decide (V.str _=V.str _))) (by rw[QtN];exact h) _ H (Same.refl H) (.bl _) Ym⟩
 ·obtain⟨⟨n1,n2,dp⟩,hR⟩:=h;have:=Qto dp;exact .inr ⟨_,_,hx.dat n1,hy.dat n2,by omega,k _ hR _ H (Same.refl H) (.bl _) Ym⟩
theorem QhQ{u:Nat}(hu:u+60<cLine):OpD (Qwj u) neD:=λA P H x y d1 d2 R Q ln dm hx hy h k=>by
 unfold neD at h;split at h
 ·rw[hx.int,hy.int];exact .inl ⟨rfl,k (.bool (!decide (V.int _=V.int _))) (by rw[QtO];exact h) _ H (Same.refl H) (.bl _) Ym⟩
 ·rw[hx.bool,hy.bool];exact .inl ⟨rfl,k (.bool (!decide (V.bl _=V.bl _))) (by rw[QtP];exact h) _ H (Same.refl H) (.bl _) Ym⟩
 ·rw[hx.str.1,hy.str.1];exact .inl ⟨rfl,k (.bool (!decide (V.str _=V.str _))) (by rw[QtN];exact h) _ H (Same.refl H) (.bl _) Ym⟩
 ·obtain⟨⟨n1,n2,dp⟩,hR⟩:=h;have:=Qto dp;exact .inr ⟨_,_,hx.dat n1,hy.dat n2,by omega,k _ hR _ H (Same.refl H) (.bl _) Ym⟩
def QoQ(u:Nat)(neg:Bool):R2:=λx y H Q=>∃c ps ds d,y=.ref c/\H c=some (.lst ps)/\Dats H ps ds/\Dat H x d/\u+d.depth<cLine/\Q (.bl (if neg then !(ds.any λe=>Jo e d) else ds.any λe=>Jo e d)) H
theorem QpD:OpR X (compareOp .In) (QoQ X.A.in1.units false):=by
 intro pins s σ H x y v u Q I rx ry h;obtain⟨c,ps,ds,d,rfl,hc,qs,qx,hu,q⟩:=h;cases ry;obtain⟨⟨as,ra⟩,ca⟩:=ZP I.hok d x v qx rx;obtain⟨its,rv,pl,hz⟩:=I.list (SqL.of hc);obtain⟨⟨bs,rb⟩,cb⟩:=Yi I.hok ds ps its qs rv;refine SeqAt.in_listAt (eqH s.heap d) pl.isList (λw hw=>QcX ra ca rb cb hu w (Yb.mp hw)) ⟨.bl _,H,I,rfl,?_⟩;rw[show its.toArray.any (eqH s.heap d)=its.any (eqH s.heap d) by simp,Qdc rb cb];exact q
theorem QhO:OpR X (compareOp .NotIn) (QoQ X.A.in1.units true):=by
 intro pins s σ H x y v u Q I rx ry h;obtain⟨c,ps,ds,d,rfl,hc,qs,qx,hu,q⟩:=h;cases ry;obtain⟨⟨as,ra⟩,ca⟩:=ZP I.hok d x v qx rx;obtain⟨its,rv,pl,hz⟩:=I.list (SqL.of hc);obtain⟨⟨bs,rb⟩,cb⟩:=Yi I.hok ds ps its qs rv;refine SeqAt.notIn_listAt (eqH s.heap d) pl.isList (λw hw=>QcX ra ca rb cb hu w (Yb.mp hw)) ⟨.bl _,H,I,rfl,?_⟩;rw[show its.toArray.any (eqH s.heap d)=its.any (eqH s.heap d) by simp,Qdc rb cb];exact q
def inD(neg:Bool)(d:PyData):PyData->(PyData->Prop)->Prop
 |.list ds,Q=>(nds ds=true/\nd d=true/\d.depth<=50)/\Q (.bool (if neg then !(ds.any λe=>Jo e d) else ds.any λe=>Jo e d))
 |.tuple ds,Q=>(nds ds=true/\nd d=true/\d.depth<=50)/\Q (.bool (if neg then !(ds.any λe=>Jo e d) else ds.any λe=>Jo e d))
 |_,_=>False
def Qvp(u:Nat)(neg:Bool):R2:=λx y H Q=>Qvo u neg x y H Q∨QoQ u neg x y H Q
theorem Qtc:OpR X (compareOp .In) (Qvp X.A.in1.units false):=OpR.or2 Qta QpD
theorem QjL:OpR X (compareOp .NotIn) (Qvp X.A.in1.units true):=OpR.or2 QjJ QhO
theorem Qtm{u:Nat}{neg:Bool}(hu:u+60<cLine):OpD (Qvp u neg) (inD neg):=λA P H x y d1 d2 R Q ln dm hx hy h k=>by
 cases d2<;>first | exact h.elim | skip
 ·obtain⟨l,xs,rfl,e,q⟩:=hy.list;obtain⟨⟨n1,n2,n3⟩,hR⟩:=h;exact .inr ⟨l,xs,_,d1,rfl,e,QaN _ _ n1 q,hx.dat n2,by omega,k _ hR _ H (Same.refl H) (.bl _) Ym⟩
 ·obtain⟨l,xs,rfl,e,q⟩:=hy.tuple;obtain⟨⟨n1,n2,n3⟩,hR⟩:=h;exact .inl ⟨l,xs,_,d1,rfl,e,QaN _ _ n1 q,hx.dat n2,by omega,k _ hR _ H (Same.refl H) (.bl _) Ym⟩
def ixD:PyData->PyData->(PyData->Prop)->Prop
 |.list ds,.int i,Q=>∃d,atI ds i=some d/\Q d
 |.tuple ds,.int i,Q=>∃d,atI ds i=some d/\Q d
 |_,_,_=>False
theorem Qod{A:Addr->Prop}{H:Hp}{xs:List V}{ds:List PyData}{i:Int}{d:PyData}(q:DAs A H xs ds)(h:atI ds i=some d):∃v,atI xs i=some v/\DA A H v d:=by
 unfold atI at h ⊢;rw[q.length];cases e:ixN ds.length i with
 |none=>rw[e] at h;cases h
 |some j=>
  rw[e] at h;exact q.get j d h
def Qwm(K:PySem.W.Frag):R2:=λx y H Q=>Quv K x y H Q∨Qwl K x y H Q
theorem Z9:IxR X (Qwm X.K):=IxR.or2 Qb5 Qtz
theorem Y8{K:PySem.W.Frag}:QrG (Qwm K) ixD:=λA P H x y d1 d2 R Q ln dm hx hy h k=>by
 cases d1<;>cases d2<;>first | exact h.elim | skip
 ·obtain⟨l,xs,rfl,e,q⟩:=hx.list;obtain⟨d,hd,hR⟩:=h;obtain⟨v,hv,dv⟩:=Qod q hd;rw[hy.int];exact .inl ⟨l,xs,_,v,rfl,rfl,SqL.of e,hv,k d hR v H (Same.refl H) dv⟩
 ·obtain⟨l,xs,rfl,e,q⟩:=hx.tuple;obtain⟨d,hd,hR⟩:=h;obtain⟨v,hv,dv⟩:=Qod q hd;rw[hy.int];exact .inr ⟨l,xs,_,v,rfl,rfl,SqT.of e,hv,k d hR v H (Same.refl H) dv⟩
def dUn(rD:PyData->(PyData->Prop)->Prop)(wa:DE):DE:=λδ Q EX=>wa δ (λd=>rD d Q) EX
def Qwt:PyData->(PyData->Prop)->Prop
 |.int i,Q=>Q (.int (-i))
 |_,_=>False
variable{a b c:QL}{wa wb wc:DE}{pos:Pos}
theorem QsX(ha:PE X a (tX .P X.K E wa)):PE X (.UnaryOp .USub a pos) (tX .F X.K E (dUn Qwt wa)):=by
 refine PE.imp (Qvy Qr5 ha) λσ H Q ⟨F,δ,R,EX,rel,hw,k,o⟩=>?_
 refine⟨F,δ,_,EX,rel,hw,λd hd v H' rel' kp vk=>?_,o⟩;cases d<;>first | exact(show False from hd).elim | skip
 exact⟨_,DP.int vk,k _ hd _ H' rel' kp ⟨.int _,ZI⟩⟩
def dCh(p q:Int->Int->Bool)(wa wb wc:DE):DE:=λδ Q EX=>wa δ (λx=>wb δ (λy=>match x,y with
 |.int i,.int j=>if p i j=true then wc δ (λz=>match z with
  |.int k=>Q (.bool (q j k))
  |_=>False) EX else Q (.bool false)
 |_,_=>False) EX) EX
theorem QkP{K:PySem.W.Frag}{p q:Int->Int->Bool}(σ:L2.St)(H:Hp)(Q:VK)(h:tX .F K E (dCh p q wa wb wc) σ H Q) :
  QiY (rI0 λi j=>.bl (p i j)) (rI0 λi j=>.bl (q i j)) (tX .P K E wa) (tX .P K E wb) (tX .P K E wc) σ H Q:=by
 obtain⟨F,δ,R,EX,rel,hw,k,o⟩:=h;refine⟨F,δ,_,EX,rel,hw,λd1 h1 x H1 rel1 kp1 x1=>⟨F,δ,_,EX,rel1,h1,λd2 h2 y H2 rel2 kp2 y2=>?_,o⟩,o⟩;cases d1<;>cases d2<;>first | exact(show False from h2).elim | skip
 rw[DP.int x1,DP.int y2];refine⟨_,_,rfl,rfl,_,rfl,QaY h2 (λz=>⟨F,δ,_,EX,rel2,z,λd3 h3 v H3 rel3 kp3 v3=>?_,o⟩) λz=>k _ z _ H2 rel2 (kp1.trans kp2) ⟨.bl _,Ym⟩⟩;cases d3<;>first | exact(show False from h3).elim | skip
 rw[DP.int v3];exact⟨_,_,rfl,rfl,k _ h3 _ H3 rel3 ((kp1.trans kp2).trans kp3) ⟨.bl _,Ym⟩⟩
theorem QvE{op op':Qhu}{p q:Int->Int->Bool}(ho:OpR X (compareOp op) (rI0 λi j=>.bl (p i j)))(ho':OpR X (compareOp op') (rI0 λi j=>.bl (q i j)))(ha:PE X a (tX .P X.K E wa))(hb:PE X b (tX .P X.K E wb))(hc:PE X c (tX .P X.K E wc))(hm:lastMarks [op,op'] [b,c]=false:=by with_unfolding_all rfl) :
  PE X (.Compare a [op,op'] [b,c] pos) (tX .F X.K E (dCh p q wa wb wc)):=PE.imp (Ql9 ho ho' ha hb hc (hm:=hm)) QkP
theorem QsP{op op':Qhu}{p q:Int->Int->Bool}(ho:OpR X (compareOp op) (rI0 λi j=>.bl (p i j)))(ho':OpR X (compareOp op') (rI0 λi j=>.bl (q i j)))(ha:PE X a (tX .P X.K E wa))(hb:PE X b (tX .P X.K E wb))(hc:PE X c (tX .P X.K E wc))(hm:lastMarks [op,op'] [b,c]=false:=by with_unfolding_all rfl) :
  PT X (.Compare a [op,op'] [b,c] pos) (tT X.K E (dTst (dCh p q wa wb wc))):=by
 refine PT.imp (QlX ho ho' ha hb hc (hm:=hm)) λσ H Q ⟨F,δ,R,EX,rel,hw,k,o⟩=>?_
 refine QkP σ H (λx H'=>∃k,x=.bl k/\Q k H') ⟨F,δ,_,EX,rel,hw,λd hd2 v H' rel' kp vk=>?_,o⟩;split at hd2
 ·rename_i b
  have:v=.bl b:=by cases vk.1;rfl
  exact⟨b,this,k b hd2 H' rel' kp⟩
 ·exact hd2.elim
def QwI:DAr:=λ_ Q _=>Q []
def QkG(we:DE)(wr:DAr):DAr:=λδ Q EX=>we δ (λd=>wr δ (λds=>Q (d::ds)) EX) EX
theorem Qpu{m:Md}:PA X [] (tAr 0 m X.K E QwI):=PA.imp Zu λσ H Q ⟨F,δ,R,EX,rel,hw,k,o⟩=>k [] hw rfl [] H rel (Kp.refl rel) .nil
theorem Qk7{n:Nat}{m:Md}{K:PySem.W.Frag}{we:DE}{wr:DAr}(hm:∀{F:Fm}{σ:L2.St}{δ:Sts}{H H':Hp}{v:V}{d:PyData},Vok m F σ δ H H' v d->VD m (Av F σ δ) (ZD σ δ) H' v d)(σ:L2.St)(H:Hp)(Q:List V->Hp->Prop)(h:tAr (n+1) m K E (QkG we wr) σ H Q):QfW (tX m K E we) (tAr n m K E wr) σ H Q:=by
 obtain⟨F,δ,R,EX,rel,hw,k,o⟩:=h;refine⟨F,δ,_,EX,rel,hw,λd hd v H' rel' kp vk=>⟨F,δ,_,EX,rel',hd,λds hds hl vs H2 rel2 kp2 vks=>?_,o⟩,o⟩;exact k _ hds (by rw[Q4,hl]) (v::vs) H2 rel2 (kp.trans kp2) (.cons (kp2.vd (hm vk)) vks)
theorem QjE{n:Nat}{e:QL}{es:List QL}{we:DE}{wr:DAr}(he:PE X e (tX .D X.K E we))(hr:PA X es (tAr n .D X.K E wr))(hs:JC e=true:=by rfl):PA X (e::es) (tAr (n+1) .D X.K E (QkG we wr)):=PA.imp (Qcq he hr hs) (Qk7 λh=>h)
theorem QjD{n:Nat}{e:QL}{es:List QL}{we:DE}{wr:DAr}(he:PE X e (tX .P X.K E we))(hr:PA X es (tAr n .P X.K E wr))(hs:JC e=true:=by rfl):PA X (e::es) (tAr (n+1) .P X.K E (QkG we wr)):=PA.imp (Qcq he hr hs) (Qk7 λh=>h)
theorem QbX{A P:Addr->Prop}{H:Hp}:∀{vs:List V}{ds:List PyData},ZQ (VD .D A P H) vs ds->DAs A H vs ds
 |_,_,.nil=>.nil
 |_,_,.cons a b=>.cons a (QbX b)
def QwD(w:DAr):DE:=λδ Q EX=>w δ (λds=>Q (.tuple ds)) EX
def QwJ(w:DAr):DE:=λδ Q EX=>w δ (λds=>Q (.list ds)) EX
theorem QsS{n:Nat}{es:List QL}{w:DAr}{x1}(h:PA X es (tAr n .D X.K E w))(hn:n<=1000:=by decide):PE X (.Tuple es x1 pos) (tX .F X.K E (QwD w)):=by
 refine PE.imp (Qpb h) λσ H Q ⟨F,δ,R,EX,rel,hw,k,o⟩=>?_
 refine⟨F,δ,_,EX,rel,hw,λds hds hl vs H' rel' kp q=>?_,o⟩;have q':=QbX q;refine⟨by rw[q'.length,hl];exact hn,λa H2 s n e=>k _ hds _ H2 (rel'.same s) (kp.trans (Kp.same rel' s)) ⟨Qdr (λa ha=>rel'.isl ha) s e q',Qc1 e⟩⟩
theorem YX{σ:L2.St}{δ:Sts}{H H':Hp}{l:Addr}(k:Kp σ δ H H')(n:H' l=none):H l=none:=by
 cases e:H l with
 |none=>rfl
 |some ob=>
  by_cases z:ZD σ δ l
  ·obtain⟨m,em⟩:=k.2 l z;rw[em] at n;cases n
  ·rw[k.1 _ _ z e] at n;cases n
theorem QsY{n:Nat}{es:List QL}{w:DAr}(h:PA X es (tAr n .D X.K E w))(hn:n<=1000:=by decide):PE X (.List es pos) (tX .F X.K E (QwJ w)):=by
 refine PE.imp (Qag h) λσ H Q ⟨F,δ,R,EX,rel,hw,k,o⟩=>?_
 refine⟨F,δ,_,EX,rel,hw,λds hds hl vs H' rel' kp q=>?_,o⟩;have q':=QbX q;refine⟨by rw[q'.length,hl];exact hn,λa H2 s n e=>k _ hds _ H2 (rel'.same s) (kp.trans (Kp.same rel' s)) ⟨Qcj (λa ha=>rel'.isl ha) s n e q',YY (YX kp n)⟩⟩
theorem Qs1{pos:Pos}:PE X (.Dict [] [] pos) (tX .D X.K E (dC (.dict []))):=by
 refine PE.imp Qpc λσ H Q ⟨F,δ,R,EX,rel,hw,k,o⟩=>λp hp=>?_
 refine k _ hw _ _ (rel.same (Jk hp)) (Kp.same rel (Jk hp)) (.dct (kvs:=[]) (λz=>?_) Jc rfl);obtain⟨xs,e⟩:=rel.isl z;rw[hp] at e;cases e
def Qay(r:List V->Hp->VK->Prop)(rD:List PyData->(PyData->Prop)->Prop):Prop:=∀(A P:Addr->Prop)(H:Hp)(vs:List V)(ds:List PyData)(R:PyData->Prop)(Q:VK),QbC H->(∀a,A a->∃xs,H a=some (.lst xs))->ZQ (DP A P H) vs ds->rD ds R ->
 (∀d,R d->∀v H',Same H H'->DA A H' v d->FrV H H' v->Q v H')->r vs H Q
def dCB(rD:List PyData->(PyData->Prop)->Prop)(wa:DAr):DE:=λδ Q EX=>wa δ (λds=>rD ds Q) EX
theorem QkT{n:Nat}{K:PySem.W.Frag}{r:List V->Hp->VK->Prop}{rD:List PyData->(PyData->Prop)->Prop}{wa:DAr}(hd:Qay r rD)(σ:L2.St)(H:Hp)(Q:VK)(h:tX .F K E (dCB rD wa) σ H Q) :
  tCB (λxs H Q=>QbC H->r xs H Q) (tAr n .P K E wa) σ H Q:=by
 obtain⟨F,δ,R,EX,rel,hw,k,o⟩:=h;refine⟨F,δ,_,EX,rel,hw,λds hds hl vs H' rel' kp q ln=>?_,o⟩;refine hd (Av F σ δ) (ZD σ δ) H' vs ds R Q ln (λa ha=>rel'.isl ha) q hds λd hR v H2 s dv fr=>?_
 exact k d hR v H2 (rel'.same s) (kp.trans (Kp.same rel' s)) ⟨dv,λl e1 e2=>YX kp (fr l e1 e2)⟩
variable{x:Str}{bid T:String}{p:Pos}{e:QL}{es:List QL}{n:Nat}{wr:DAr}{r:List V->Hp->VK->Prop}{rD:List PyData->(PyData->Prop)->Prop}
theorem Qmx(hc:CallR X (.builtin bid) r)(hd:Qay r rD)(hg:Gl X x)(hm:X.mg x=none)(hv:bootBuiltins x=some (.builtin bid))(ha:PA X (e::es) (tAr n .P X.K E wr))(hn:x ≠ "__name__" := by decide)(hdb:(x == ("__debug__" : Str))=false:=by decide)
  (he:starEach (e::es) X.env=(false,eval e X.env)::starEach es X.env:=by rfl)(hpl:(backTo pos (starEach es X.env)).any (·.1)=false:=by rfl):PE X (.Call (.Name x p) (e::es) [] pos) (tX .F X.K E (dCB rD wr)):=
 PE.imp (Qah (CallR.len hc) hg hm hv ha hn hdb he hpl) (QkT hd)
theorem QjG(hc:CallR X (.type T) r)(hd:Qay r rD)(hg:Gl X x)(hm:X.mg x=none)(hv:bootBuiltins x=some (.type T))(ha:PA X (e::es) (tAr n .P X.K E wr))(hn:x ≠ "__name__" := by decide)(hdb:(x == ("__debug__" : Str))=false:=by decide)
  (he:starEach (e::es) X.env=(false,eval e X.env)::starEach es X.env:=by rfl)(hpl:(backTo pos (starEach es X.env)).any (·.1)=false:=by rfl):PE X (.Call (.Name x p) (e::es) [] pos) (tX .F X.K E (dCB rD wr)):=
 PE.imp (Qfa (CallR.len hc) hg hm hv ha hn hdb he hpl) (QkT hd)
theorem pd1{A P:Addr->Prop}{H:Hp}{vs:List V}{d:PyData}(q:ZQ (DP A P H) vs [d]):∃v,vs=[v]/\DP A P H v d:=by
 cases q with
 |cons a b=>cases b;exact⟨_,rfl,a⟩
theorem pd2{A P:Addr->Prop}{H:Hp}{vs:List V}{d d':PyData}(q:ZQ (DP A P H) vs [d,d']):∃v v',vs=[v,v']/\DP A P H v d/\DP A P H v' d':=by
 cases q with
 |cons a b=>cases b with | cons b c=>cases c;exact⟨_,_,rfl,a,b⟩
def Qww:List PyData->(PyData->Prop)->Prop
 |[.list ds],Q=>Q (.int ds.length)
 |[.tuple ds],Q=>Q (.int ds.length)
 |_,_=>False
theorem Qaq{K:PySem.W.Frag}:Qay (Qss K) Qww:=λA P H vs ds R Q ln dm q h k=>by
 unfold Qww at h;split at h
 ·obtain⟨v,rfl,hv⟩:=pd1 q;obtain⟨l,xs,rfl,e,qq⟩:=hv.list;exact⟨l,xs,rfl,.inl (SqL.of e),by rw[qq.length];exact k _ h _ H (Same.refl H) (.int _) ZI⟩
 ·obtain⟨v,rfl,hv⟩:=pd1 q;obtain⟨l,xs,rfl,e,qq⟩:=hv.tuple;exact⟨l,xs,rfl,.inr (SqT.of e),by rw[qq.length];exact k _ h _ H (Same.refl H) (.int _) ZI⟩
 ·exact h.elim
theorem ZF:CallR X (.builtin "len") (Qss X.K):=QaH
def Qp3:List PyData->(PyData->Prop)->Prop
 |[.int i,.int j],Q=>Q (.int (if j<i then j else i))
 |_,_=>False
def Qp5:List PyData->(PyData->Prop)->Prop
 |[.int i,.int j],Q=>Q (.int (if j > i then j else i))
 |_,_=>False
theorem QkR:Qay (λxs H Q=>∃i j,xs=[.int i,.int j]/\Q (.int (if j<i then j else i)) H) Qp3:=λA P H vs ds R Q ln dm q h k=>by
 unfold Qp3 at h;split at h
 ·obtain⟨v,v',rfl,h1,h2⟩:=pd2 q;rw[h1.int,h2.int];exact⟨_,_,rfl,k _ h _ H (Same.refl H) (.int _) ZI⟩
 ·exact h.elim
theorem QkS:Qay (λxs H Q=>∃i j,xs=[.int i,.int j]/\Q (.int (if j > i then j else i)) H) Qp5:=λA P H vs ds R Q ln dm q h k=>by
 unfold Qp5 at h;split at h
 ·obtain⟨v,v',rfl,h1,h2⟩:=pd2 q;rw[h1.int,h2.int];exact⟨_,_,rfl,k _ h _ H (Same.refl H) (.int _) ZI⟩
 ·exact h.elim
def QaI:List PyData->Option (List Bool)
 |[]=>some []
 |.bool b::ds=>(QaI ds).map (b::·)
 |_::_=>none
def Y9:List PyData->Option (List Int)
 |[]=>some []
 |.int b::ds=>(Y9 ds).map (b::·)
 |_::_=>none
theorem QfB(bs:List Bool):QaI (bs.map Yo)=some bs:=by
 induction bs with
 |nil=>rfl
 |cons b bs ih=>rw[Zc,QaI,ih];rfl
theorem ints_map(bs:List Int):Y9 (bs.map Qe)=some bs:=by
 induction bs with
 |nil=>rfl
 |cons b bs ih=>rw[Zc,Y9,ih];rfl
theorem bools_eq:∀{ds:List PyData}{bs:List Bool},QaI ds=some bs->ds=bs.map Yo
 |[],bs,h=>by cases h;rfl
 |d::ds,bs,h=>by
  cases d<;>first | (unfold QaI at h;cases h;done) | skip
  rw[QaI] at h;obtain⟨cs,h1,rfl⟩:=Jw.mp h;rw[bools_eq h1];rfl
theorem Qb7:∀{ds:List PyData}{bs:List Int},Y9 ds=some bs->ds=bs.map Qe
 |[],bs,h=>by cases h;rfl
 |d::ds,bs,h=>by
  cases d<;>first | (unfold Y9 at h;cases h;done) | skip
  rw[Y9] at h;obtain⟨cs,h1,rfl⟩:=Jw.mp h;rw[Qb7 h1];rfl
theorem Qc5{A:Addr->Prop}{H:Hp}:∀{bs:List Bool}{xs:List V},DAs A H xs (bs.map Yo)->xs=bs.map V.bl
 |[],_,.nil=>rfl
 |b::bs,_,.cons (.bl _) r=>by rw[Qc5 r];rfl
theorem QaM{A:Addr->Prop}{H:Hp}:∀{bs:List Int}{xs:List V},DAs A H xs (bs.map Qe)->xs=bs.map V.int
 |[],_,.nil=>rfl
 |b::bs,_,.cons (.int _) r=>by rw[QaM r];rfl
@[irreducible] def QuE:List PyData->(PyData->Prop)->Prop
 |[.list ds],Q=>∃bs,QaI ds=some bs/\Q (.bool (bs.all id))
 |_,_=>False
theorem Qfs{K:PySem.W.Frag}{cm:Bool}(hc:cm=true):Qay (λxs H Q=>∃(p:Addr)(bs:List Bool),xs=[.ref p]/\SqL K H p (bs.map V.bl)/\cm=true/\Q (.bl (bs.all id)) H) QuE:=λA P H vs ds R Q ln dm q h k=>by
 unfold QuE at h;split at h
 ·obtain⟨v,rfl,hv⟩:=pd1 q;obtain⟨bs,hb,hR⟩:=h;rw[bools_eq hb] at hv;obtain⟨l,xs,rfl,e,qq⟩:=hv.list;rw[Qc5 qq] at e;exact⟨l,bs,rfl,SqL.of e,hc,k _ hR _ H (Same.refl H) (.bl _) Ym⟩
 ·exact h.elim
@[irreducible] def QmU:List PyData->(PyData->Prop)->Prop
 |[.list ds],Q=>∃ns,Y9 ds=some ns/\0<ns.length/\∀m,m∈ns->(∀y∈ns,m<=y)->Q (.int m)
 |_,_=>False
theorem Qrw{K:PySem.W.Frag}:Qay (Qsr K) QmU:=λA P H vs ds R Q ln dm q h k=>by
 unfold QmU at h;split at h
 ·obtain⟨v,rfl,hv⟩:=pd1 q;obtain⟨bs,hb,h0,hR⟩:=h;rw[Qb7 hb] at hv;obtain⟨l,xs,rfl,e,qq⟩:=hv.list;rw[QaM qq] at e;exact⟨l,bs,rfl,SqL.of e,h0,λm h1 h2=>k _ (hR m h1 h2) _ H (Same.refl H) (.int _) ZI⟩
 ·exact h.elim
def Qnz:List PyData->(PyData->Prop)->Prop
 |[.list ds],Q=>Q (.tuple ds)
 |[.tuple ds],Q=>Q (.tuple ds)
 |_,_=>False
def Qtr:List PyData->(PyData->Prop)->Prop
 |[.list ds],Q=>Q (.list ds)
 |[.tuple ds],Q=>Q (.list ds)
 |_,_=>False
theorem Qhi{K:PySem.W.Frag}:Qay (Qjl K) Qnz:=λA P H vs ds R Q ln dm q h k=>by
 unfold Qnz at h;split at h
 ·obtain⟨v,rfl,hv⟩:=pd1 q;obtain⟨l,xs,rfl,e,qq⟩:=hv.list;exact⟨l,xs,rfl,.inl ⟨SqL.of e,λl' H' s n e'=>k _ h _ H' s (Qdr dm s e' qq) (Qc1 e')⟩⟩
 ·obtain⟨v,rfl,hv⟩:=pd1 q;obtain⟨l,xs,rfl,e,qq⟩:=hv.tuple;exact⟨l,xs,rfl,.inr ⟨SqT.of e,k _ h _ H (Same.refl H) (Qdr dm (Same.refl H) e qq) (Qc1 e)⟩⟩
 ·exact h.elim
theorem Qrx{K:PySem.W.Frag}:Qay (Qjn K) Qtr:=λA P H vs ds R Q ln dm q h k=>by
 unfold Qtr at h;split at h
 ·obtain⟨v,rfl,hv⟩:=pd1 q;obtain⟨l,xs,rfl,e,qq⟩:=hv.list;exact⟨l,xs,rfl,.inl (SqL.of e),λl' H' s n e'=>k _ h _ H' s (Qcj dm s n e' qq) (YY n)⟩
 ·obtain⟨v,rfl,hv⟩:=pd1 q;obtain⟨l,xs,rfl,e,qq⟩:=hv.tuple;exact⟨l,xs,rfl,.inr (SqT.of e),λl' H' s n e'=>k _ h _ H' s (Qcj dm s n e' qq) (YY n)⟩
 ·exact h.elim
def intD:List PyData->(PyData->Prop)->Prop
 |[.int i],Q=>Q (.int i)
 |[.bool k],Q=>Q (.int (if k then 1 else 0))
 |_,_=>False
theorem Qt2:Qay Qvn intD:=λA P H vs ds R Q ln dm q h k=>by
 unfold intD at h;split at h
 ·obtain⟨v,rfl,hv⟩:=pd1 q;rw[hv.int];exact .inl ⟨_,rfl,k _ h _ H (Same.refl H) (.int _) ZI⟩
 ·obtain⟨v,rfl,hv⟩:=pd1 q;rw[hv.bool];exact .inr ⟨_,rfl,k _ h _ H (Same.refl H) (.int _) ZI⟩
 ·exact h.elim
end
section
variable{X:Cx}{E:XK}
inductive Tn where | int | bool | str | tuple | list
def Tn.s:Tn->String
 |.int => "int"
 |.bool => "bool"
 |.str => "str"
 |.tuple => "tuple"
 |.list => "list"
def isT:Tn->PyData->Bool
 |.int,.int _=>true
 |.int,.bool _=>true
 |.bool,.bool _=>true
 |.str,.str _=>true
 |.tuple,.tuple _=>true
 |.list,.list _=>true
 |_,_=>false
theorem Qrb{K:PySem.W.Frag}{A P:Addr->Prop}{H:Hp}{v:V}{d:PyData}(tn:Tn)(h:DP A P H v d):∃t,TyOf K H v t/\PySem.W.kitOne K t (.type tn.s)=some (isT tn d):=by
 rcases h with h | ⟨l,xs,ds,rfl,rfl,_,e,q⟩
 ·cases h with
  |non=>exact⟨_,.non,by cases tn<;>rfl⟩
  |bl b=>exact⟨_,.bl _,by cases tn<;>rfl⟩
  |int i=>exact⟨_,.int _,by cases tn<;>rfl⟩
  |str x c=>exact⟨_,.str _,by cases tn<;>rfl⟩
  |tup n e q=>exact⟨_,.tup e,by cases tn<;>rfl⟩
  |lst n e q=>exact⟨_,.lst e,by cases tn<;>rfl⟩
  |dct n e q=>exact⟨_,.dK e,by cases tn<;>rfl⟩
 ·exact⟨_,.lst e,by cases tn<;>rfl⟩
def QtX(tn:Tn)(we:DE):DE:=λδ Q EX=>we δ (λd=>Q (.bool (isT tn d))) EX
theorem Qpw{e f:QL}{we:DE}{p pos:Pos}(tn:Tn)(hg:Gl X "isinstance")(hm:X.mg "isinstance" = none)(he:PE X e (tX .P X.K E we))(hf:PE X f (tC (.ty tn.s)))(h1:JC e=true:=by rfl)(h2:JC f=true:=by rfl) :
  PE X (.Call (.Name "isinstance" p) [e,f] [] pos) (tX .F X.K E (QtX tn we)):=by
 refine PE.imp (Qah Qgt hg hm Qal (Qcq he (Qcq hf Zu h2) h1) (he:=ZO h1) (hpl:=by rw[ZO h2];rfl)) λσ H Q ⟨F,δ,R,EX,rel,hw,k,o⟩=>?_
 refine⟨F,δ,_,EX,rel,hw,λd hd v H' rel' kp vk=>?_,o⟩;obtain⟨t,ty,et⟩:=Qrb (K:=X.K) tn vk;exact⟨v,t,tn.s,_,rfl,ty,et,k _ hd _ H' rel' kp ⟨.bl _,Ym⟩⟩
theorem QvG{x:Str}{pos:Pos}(tn:Tn)(hg:Gl X x)(hm:X.mg x=none)(hv:bootBuiltins x=some (.type tn.s))(hn:x ≠ "__name__" := by decide)(hd:(x == ("__debug__" : Str))=false:=by decide):PE X (.Name x pos) (tC (.ty tn.s)):=Qjz (v:=.ty tn.s) hg hm hv rfl hn hd
abbrev DO:=Sts->(Option Int->Prop)->XP->Prop
def tO(K:PySem.W.Frag)(E:XK)(w:DO):TO:=λσ H Q=>∃(F:Fm)(δ:Sts)(R:Option Int->Prop)(EX:XP),Rel K F σ H δ/\w δ R EX/\(∀d,R d->∀H',Rel K F σ H' δ->Kp σ δ H H'->Q d H')/\Out F E EX
def dNo:DO:=λ_ Q _=>Q none
def dSo(we:DE):DO:=λδ Q EX=>we δ (λd=>match d with
 |.int i=>Q (some i)
 |_=>False) EX
theorem PO.imp{e:Option QL}{t t':TO}(h:PO X e t)(i:∀σ H Q,t' σ H Q->t σ H Q):PO X e t':=λpins s σ H Q I q=>h pins s σ H Q I (i σ H Q q)
theorem Qmn:PO X none (tO X.K E dNo):=PO.imp Qo6 λσ H Q ⟨F,δ,R,EX,rel,hw,k,o⟩=>k _ hw H rel (Kp.refl rel)
theorem Qmm{e:QL}{we:DE}(he:PE X e (tX .P X.K E we)):PO X (some e) (tO X.K E (dSo we)):=by
 refine PO.imp (Qo5 he) λσ H Q ⟨F,δ,R,EX,rel,hw,k,o⟩=>?_
 refine⟨F,δ,_,EX,rel,hw,λd hd v H' rel' kp vk=>?_,o⟩;cases d<;>first | exact(show False from hd).elim | skip
 exact⟨_,DP.int vk,k _ hd H' rel' kp⟩
def cutD(xs:List PyData)(lo hi:Option Int):List PyData:=(xs.drop (HT.sIx xs.length 0 lo)).take (HT.sIx xs.length xs.length hi - HT.sIx xs.length 0 lo)
theorem QkK{A:Addr->Prop}{H:Hp}{xs:List V}{ds:List PyData}(q:DAs A H xs ds)(lo hi:Option Int):DAs A H (Qix xs lo hi) (cutD ds lo hi):=by
 unfold Qix cutD;rw[q.length];exact(q.drop _).take _
def slD(d:PyData)(lo hi:Option Int)(Q:PyData->Prop):Prop:=
 match d with
 |.list ds=>Q (.list (cutD ds lo hi))
 |.tuple ds=>Q (.tuple (cutD ds lo hi))
 |_=>False
def dSl(we:DE)(wl wh:DO):DE:=λδ Q EX=>we δ (λd=>wl δ (λlo=>wh δ (λhi=>slD d lo hi Q) EX) EX) EX
def Qsn(K:PySem.W.Frag):V->Option Int->Option Int->Hp->VK->Prop:=λx a b H Q=>Qwg x a b H Q∨Qsm K x a b H Q
theorem Qmt{e:QL}{lo hi:Option QL}{we:DE}{wl wh:DO}{p2 pos:Pos}(he:PE X e (tX .P X.K E we))(hl:PO X lo (tO X.K E wl))(hh:PO X hi (tO X.K E wh)):PE X (.Subscript e (.Slice lo hi none p2) pos) (tX .F X.K E (dSl we wl wh)):=by
 refine PE.imp (Ql6 (r:=Qsn X.K) (SlR.or2 Qsj QlE) he hl hh) λσ H Q ⟨F,δ,R,EX,rel,hw,k,o⟩=>?_
 refine⟨F,δ,_,EX,rel,hw,λd hd v H1 rel1 kp1 vk=>⟨F,δ,_,EX,rel1,hd,λa ha H2 rel2 kp2=>⟨F,δ,_,EX,rel2,ha,λb hb H3 rel3 kp3=>?_,o⟩,o⟩,o⟩;have v3:=kp3.dp (kp2.dp vk);have K3:=(kp1.trans kp2).trans kp3;cases d<;>first | exact(show False from hb).elim | skip
 ·obtain⟨l,xs,rfl,e,q⟩:=DP.list v3;exact .inr ⟨l,xs,rfl,SqL.of e,λp H' s n e'=>k _ hb _ H' (rel3.same s) (K3.trans (Kp.same rel3 s)) ⟨Qcj (λa ha=>rel3.isl ha) s n e' (QkK q _ _),YY (YX K3 n)⟩⟩
 ·obtain⟨l,xs,rfl,e,q⟩:=DP.tuple v3;exact .inl ⟨l,xs,rfl,e,λp H' s e'=>k _ hb _ H' (rel3.same s) (K3.trans (Kp.same rel3 s)) ⟨Qdr (λa ha=>rel3.isl ha) s e' (QkK q _ _),Qc1 e'⟩⟩
abbrev DF:=List Sl->(PyData->Prop)->XP->Prop
def Kq(pt:Addr->Prop)(H H':Hp):Prop:=(∀b o,¬pt b->H b=some o->H' b=some o)/\∀p,pt p->∃n,H' p=some (.lst [.int n])
def JF(fr:Bool)(f:DF):Sp:=λvs H Q Ex=>∃(A pt:Addr->Prop)(args:List Sl)(R:PyData->Prop)(EX:XP),(∀a,A a->∃xs,H a=some (.lst xs))/\(∀p,pt p->A p/\∃n,H p=some (.lst [.int n]))/\ZQ (QfI A pt H) vs args/\f args R EX /\
 (∀d,R d->∀v H',Kq pt H H'->DA A H' v d->(fr=true->FrV H H' v)->Q v H')/\∀C,EX C->∀H',Kq pt H H'->Ex (.ref C) none H'
def Qwf:DSl:=λ_ Q _=>Q []
def sV(we:DE)(wr:DSl):DSl:=λδ Q EX=>we δ (λd=>wr δ (λds=>Q (.v d::ds)) EX) EX
def Qvg(i:Nat)(wr:DSl):DSl:=λδ Q EX=>match δ[i]? with
 |some .pot=>wr δ (λds=>Q (.pot::ds)) EX
 |_=>False
theorem Qpp:PA X [] (tAs X.K E Qwf):=PA.imp Zu λσ H Q ⟨F,δ,R,EX,rel,hw,k,o⟩=>k [] hw [] H rel (Kp.refl rel) .nil
theorem QvA{e:QL}{es:List QL}{we:DE}{wr:DSl}(he:PE X e (tX .D X.K E we))(hr:PA X es (tAs X.K E wr))(hs:JC e=true:=by rfl):PA X (e::es) (tAs X.K E (sV we wr)):=by
 refine PA.imp (Qcq he hr hs) λσ H Q ⟨F,δ,R,EX,rel,hw,k,o⟩=>?_
 refine⟨F,δ,_,EX,rel,hw,λd hd v H' rel' kp vk=>⟨F,δ,_,EX,rel',hd,λds hds vs H2 rel2 kp2 vks=>?_,o⟩,o⟩;exact k _ hds (v::vs) H2 rel2 (kp.trans kp2) (.cons (kp2.da vk) vks)
theorem Qpm{e:QL}{es:List QL}{i:Nat}{wr:DSl}(he:PE X e (Qiu i))(hr:PA X es (tAs X.K E wr))(hs:JC e=true:=by rfl):PA X (e::es) (tAs X.K E (Qvg i wr)):=by
 refine PA.imp (Qcq he hr hs) λσ H Q ⟨F,δ,R,EX,rel,hw,k,o⟩=>?_
 unfold Qvg at hw;split at hw
 ·rename_i hd
  obtain⟨x,hx⟩:=rel.lt hd;obtain⟨p,n,rfl,e,q⟩:=rel.sl i _ _ hx hd;refine⟨.ref p,hx,F,δ,_,EX,rel,hw,λds hds vs H2 rel2 kp2 vks=>?_,o⟩;exact k _ hds (.ref p::vs) H2 rel2 kp2 (.cons ⟨p,rfl,i,hx,hd⟩ vks)
 ·exact hw.elim
def Qh5(f:DF)(wa:DSl):DE:=λδ Q EX=>wa δ (λargs=>f args Q EX) EX
theorem Kq.kp{K:PySem.W.Frag}{F:Fm}{σ:L2.St}{δ:Sts}{H H':Hp}(k:Kq (ZD σ δ) H H'):Kp σ δ H H':=k
theorem Qc9{m:Md}{fr:Bool}{K:PySem.W.Frag}{f:DF}{wa:DSl}(hm:∀{F:Fm}{σ:L2.St}{δ:Sts}{H H':Hp}{v:V}{d:PyData},DA (Av F σ δ) H' v d->(fr=true->FrV H H' v)->Vok m F σ δ H H' v d)(σ:L2.St)(H:Hp)(Q:VK)(h:tX m K E (Qh5 f wa) σ H Q):QlB (JF fr f) [] E (tAs K E wa) σ H Q:=by
 obtain⟨F,δ,R,EX,rel,hw,k,o⟩:=h;refine⟨F,δ,_,EX,rel,hw,λargs ha vs H1 rel1 kp1 q=>?_,o⟩;show JF fr f (vs++[]) H1 Q E;rw[Zk];refine⟨Av F σ δ,ZD σ δ,args,R,EX,λa ha=>rel1.isl ha,λp hp=>⟨ZW hp,(Kp.refl rel1).2 p hp⟩,q,ha,λd hd v H' kq dv fr=>?_,λC hC H' kq=>o C hC H' (rel1.kp kq).ke⟩;exact k d hd v H' (rel1.kp kq) (kp1.trans kq) (hm dv λz l e1 e2=>YX kp1 (fr z l e1 e2))
variable{CX:CXT}{k:Nat}{f:Addr}{fd:Qy}{ps:List Str}{x:Str}{p pos:Pos}{e:QL}{es:List QL}{fD:DF}{wa:DSl}
theorem Qpz(G:FnOk X.prog X.w X.K X.mg X.base CX k f fd ps (JF false fD))(hr:Room k X.A)(hg:Gl X x)(hm:X.mg x=some (.ref f))(hk:PySem.W.keepIn X.K (.ref f)=true)(hb:Binds X.K fd ps [])(hx:Qar CX X E)
  (ha:PA X (e::es) (tAs X.K E wa))(hdb:(x == ("__debug__" : Str))=false:=by decide)(he:starEach (e::es) X.env=(false,eval e X.env)::starEach es X.env:=by rfl)(hpl:(backTo pos (starEach es X.env)).any (·.1)=false:=by rfl) :
  PE X (.Call (.Name x p) (e::es) [] pos) (tX .D X.K E (Qh5 fD wa)):=PE.imp (QcU G hr hg hm hk hb .nil hx ha hdb he hpl) (Qc9 λh _=>h)
theorem Qmw(G:FnOk X.prog X.w X.K X.mg X.base CX k f fd ps (JF true fD))(hr:Room k X.A)(hg:Gl X x)(hm:X.mg x=some (.ref f))(hk:PySem.W.keepIn X.K (.ref f)=true)(hb:Binds X.K fd ps [])(hx:Qar CX X E)
  (ha:PA X (e::es) (tAs X.K E wa))(hdb:(x == ("__debug__" : Str))=false:=by decide)(he:starEach (e::es) X.env=(false,eval e X.env)::starEach es X.env:=by rfl)(hpl:(backTo pos (starEach es X.env)).any (·.1)=false:=by rfl) :
  PE X (.Call (.Name x p) (e::es) [] pos) (tX .F X.K E (Qh5 fD wa)):=PE.imp (QcU G hr hg hm hk hb .nil hx ha hdb he hpl) (Qc9 λh z=>⟨h,z rfl⟩)
def scal:PyData->Bool
 |.list _=>false
 |.tuple _=>false
 |.dict _=>false
 |_=>true
def QtJ:PyData->Bool
 |.list ds=>ds.all scal
 |d=>scal d
theorem QoF{A A':Addr->Prop}{H:Hp}{v:V}{d:PyData}(h:DA A H v d)(s:scal d=true):DA A' H v d:=by
 cases h with
 |non=>exact .non
 |bl b=>exact .bl b
 |int i=>exact .int i
 |str x c=>exact .str x c
 |tup _ _ _=>cases s
 |lst _ _ _=>cases s
 |dct _ _ _=>cases s
theorem QgI{A A':Addr->Prop}{H:Hp}:∀{vs:List V}{ds:List PyData},DAs A H vs ds->ds.all scal=true->DAs A' H vs ds
 |_,_,.nil,_=>.nil
 |_,_,.cons a b,s=>by
  rw[QgC,Ju] at s;exact .cons (QoF a s.1) (QgI b s.2)
def QkI(f:DF)(wa:DAr):DE:=λδ Q EX=>wa δ (λds=>f (ds.map Sl.v) (λd=>QtJ d=true/\Q d) EX) EX
def QwU(P:Addr->Prop)(H:Hp)(vs:List V)(a:Addr):Prop:=V.ref a∈vs/\¬P a
theorem Qfk{A P:Addr->Prop}{H:Hp}(ws:List V):∀{vs:List V}{ds:List PyData},(∀v∈vs,v∈ws)->ZQ (VD .P A P H) vs ds->ZQ (QfI (λa=>A a/\¬QwU P H ws a) (λ_=>False) H) vs (ds.map Sl.v)
 |_,_,_,.nil=>.nil
 |v::vs,d::ds,m,.cons a b=>by
  refine .cons ?_ (Qfk ws (λv hv=>m v (Jp _ hv)) b)
  rcases a with a | ⟨l,xs,ds,rfl,rfl,n,e,q⟩
  ·exact a.mv (λ_ _ _ e=>e) λa z=>.inl z.1
  ·exact .lst (λz=>z.2 ⟨m _ JR,n⟩) e (q.mv (λ_ _ _ e=>e) λa z=>.inl z.1)
theorem Qib{n:Nat}{fr:Bool}{K:PySem.W.Frag}{f:DF}{wa:DAr}(hfr:fr=true)(σ:L2.St)(H:Hp)(Q:VK)(h:tX .F K E (QkI f wa) σ H Q):QlB (JF fr f) [] E (tAr n .P K E wa) σ H Q:=by
 obtain⟨F,δ,R,EX,rel,hw,k,o⟩:=h;refine⟨F,δ,_,EX,rel,hw,λargs ha _ vs H1 rel1 kp1 q=>?_,o⟩;show JF fr f (vs++[]) H1 Q E;rw[Zk];refine⟨λa=>Av F σ δ a/\¬QwU (ZD σ δ) H1 vs a,λ_=>False,args.map Sl.v,_,EX,λa ha=>rel1.isl ha.1,λp hp=>hp.elim,Qfk vs (λ_ h=>h) q,ha,λd hd v H' kq dv fr=>?_,λC hC H' kq=>o C hC H' (rel1.same λb o e=>kq.1 b o (λz=>z) e).ke⟩;have s:Same H1 H':=λb o e=>kq.1 b o (λz=>z) e
 have fv:=fr hfr;refine k d hd.2 v H' (rel1.same s) (kp1.trans (Kp.same rel1 s)) ⟨?_,λl e1 e2=>YX kp1 (fv l e1 e2)⟩;have hf:=hd.1;cases dv with
 |non=>exact .non
 |bl b=>exact .bl b
 |int i=>exact .int i
 |str x c=>exact .str x c
 |tup _ _ _=>cases hf
 |dct _ _ _=>cases hf
 |@lst a xs ds n' e q'=>
  refine .lst (λz=>?_) e (QgI q' hf);obtain⟨ys,e'⟩:=rel1.isl z;rw[fv a rfl ⟨xs,e⟩] at e';cases e'
theorem Qmv{n:Nat}{wr:DAr}(G:FnOk X.prog X.w X.K X.mg X.base CX k f fd ps (JF true fD))(hr:Room k X.A)(hg:Gl X x)(hm:X.mg x=some (.ref f))(hk:PySem.W.keepIn X.K (.ref f)=true)(hb:Binds X.K fd ps [])(hx:Qar CX X E)
  (ha:PA X (e::es) (tAr n .P X.K E wr))(hdb:(x == ("__debug__" : Str))=false:=by decide)(he:starEach (e::es) X.env=(false,eval e X.env)::starEach es X.env:=by rfl)(hpl:(backTo pos (starEach es X.env)).any (·.1)=false:=by rfl) :
  PE X (.Call (.Name x p) (e::es) [] pos) (tX .F X.K E (QkI fD wr)):=PE.imp (QcU G hr hg hm hk hb .nil hx ha hdb he hpl) (Qib rfl)
end
abbrev DG:=PyData->Sts->(Sts->Prop)->Prop
def tG(ix:List Nat)(K:PySem.W.Frag)(w:DG):TG:=λv σ H Q=>∃(F:Fm)(δ:Sts)(d:PyData)(R:Sts->Prop),Rel K F σ H δ/\DA (Av F σ δ) H v d/\w d δ R /\
 ∀δ',R δ'->∀σ',Rel K F σ' H δ'->Stp F σ H δ σ' H δ'->σ'.length=σ.length->(∀j,j∉ix->σ'[j]? = σ[j]?)->Q σ' H
theorem Yw{α:Type}{l:List α}{i j:Nat}{x:α}(h:j≠i):(l.set i x)[j]? = l[j]? := YK (Qaz h)
theorem set_eq{α:Type}{l:List α}{i:Nat}{x y:α}(h:(l.set i x)[i]? = some y):y=x:=by
 rw[QaA] at h;simp only[if_true] at h;split at h
 ·exact(Qq h).symm
 ·cases h
theorem Qdb{F:Fm}{σ:L2.St}{δ:Sts}{i:Nat}{o:Option V}{d:PyData}{a:Addr}(h:Av F (σ.set i o) (δ.set i (.v d)) a):Av F σ δ a:=by
 rcases h with h | ⟨j,h1,h2⟩
 ·exact .inl h
 ·by_cases z:j=i
  ·subst z;rcases h2 with h2 | ⟨ds,h2⟩<;>cases set_eq h2
  ·rw[Yw z] at h1 h2;exact .inr ⟨j,h1,h2⟩
theorem Rel.setv{K:PySem.W.Frag}{F:Fm}{σ:L2.St}{H:Hp}{δ:Sts}(r:Rel K F σ H δ){i:Nat}{v:V}{d:PyData}(q:DA (Av F σ δ) H v d):Rel K F (σ.set i (some v)) H (δ.set i (.v d)) where
 len:=by rw[Zj,Zj];exact r.len
 dom:=r.dom
 dom0:=r.dom0
 pt0:=r.pt0
 kx:=r.kx
 sl:=λj o x h1 h2=>by
  have wk:∀{v:V}{d':PyData},DA (Av F σ δ) H v d'->DA (Av F (σ.set i (some v)) (δ.set i (.v d))) H v d':=λh=>h.mv (λ_ _ _ e=>e) λa z=>.inl (Qdb z)
  by_cases z:j=i
  ·subst z;cases set_eq h1;cases set_eq h2;exact⟨v,rfl,q.mv (λ_ _ _ e=>e) λa z=>.inl (Qdb z)⟩
  ·rw[Yw z] at h1 h2;have h:=r.sl j o x h1 h2;cases x with
   |no=>trivial
   |v d=>obtain⟨v',e,q'⟩:=h;exact⟨v',e,q'.mv (λ_ _ _ e=>e) λa z=>.inl (Qdb z)⟩
   |own ds=>obtain⟨l,xs,e,e2,q',f⟩:=h;exact⟨l,xs,e,e2,q'.mv (λ_ _ _ e=>e) λa z=>.inl (Qdb z),f⟩
   |pk ds=>obtain⟨l,xs,e,e2,q',f⟩:=h;exact⟨l,xs,e,e2,q'.mv (λ_ _ _ e=>e) λa z=>.inl (Qdb z),f⟩
   |pot=>exact h
   |scr=>exact h
 inj:=λj k a ds h1 h2 ⟨h3,h4⟩=>by
  by_cases z:j=i
  ·subst z;cases set_eq h1
  ·rw[Yw z] at h1 h2;by_cases z2:k=i
   ·subst z2;rcases h4 with h4 | ⟨ds,h4⟩<;>cases set_eq h4
   ·rw[Yw z2] at h3 h4;exact r.inj j k a ds h1 h2 ⟨h3,h4⟩
theorem Stp.setv{F:Fm}{σ:L2.St}{H:Hp}{δ:Sts}{i:Nat}{o:Option V}{d:PyData}:Stp F σ H δ (σ.set i o) H (δ.set i (.v d)):=⟨λ_ _ _ e=>e,λa z=>.inl (Qdb z)⟩
def gN(i:Nat):DG:=λd δ Q=>Q (δ.set i (.v d))
def QgH:Sts->List Nat->List PyData->Sts
 |δ,i::is,d::ds=>QgH (δ.set i (.v d)) is ds
 |δ,_,_=>δ
def gTN(is:List Nat):DG:=λd δ Q=>match d with
 |.tuple ds=>ds.length=is.length/\Q (QgH δ is ds)
 |_=>False
section
variable{X:Cx}{E:XK}
theorem PG.imp{e:QL}{t t':TG}(h:PG X e t)(i:∀v σ H Q,t' v σ H Q->t v σ H Q):PG X e t':=λpins s σ H v u Q I r q=>h pins s σ H v u Q I r (i v σ H Q q)
theorem Qms{e:QL}{i:Nat}(h:PG X e (Qex i)):PG X e (tG [i] X.K (gN i)):=PG.imp h λv σ H Q ⟨F,δ,d,R,rel,dv,hw,k⟩=>
 k _ hw _ (rel.setv dv) Stp.setv (Zj ..) λj hj=>Yw λz=>hj (by rw[z];exact QY.mpr rfl)
def gNs:List Nat->TGs
 |[]=>Qwz
 |i::is=>QtF (Qex i) (gNs is)
theorem Qg7{K:PySem.W.Frag}{F:Fm}{H:Hp}{Q:L2.St->Hp->Prop}:∀(is:List Nat)(vs:List V)(ds:List PyData)(σ:L2.St)(δ:Sts),ds.length=is.length->Rel K F σ H δ->DAs (Av F σ δ) H vs ds ->
  (∀σ',Rel K F σ' H (QgH δ is ds)->Stp F σ H δ σ' H (QgH δ is ds)->σ'.length=σ.length->(∀j,j∉is->σ'[j]? = σ[j]?)->Q σ' H)->gNs is vs σ H Q
 |[],vs,ds,σ,δ,hl,rel,q,k=>by
  cases ds with
  |nil=>cases q;exact⟨rfl,k σ rel Stp.refl rfl λ_ _=>rfl⟩
  |cons d ds=>cases hl
 |i::is,vs,ds,σ,δ,hl,rel,q,k=>by
  cases ds with
  |nil=>cases hl
  |cons d ds=>
   cases q with
   |@cons v vs _ _ q qs=>
    refine⟨v,vs,rfl,?_⟩;refine Qg7 is vs ds _ _ (by simpa using hl) (rel.setv q) (qs.mv (λ_ _ _ e=>e) λa z=>.inl (Qdb z)) λσ' r' st hl' hj=>?_
    refine k σ' r' (Stp.setv.trans st) (by rw[hl',Zj]) λj hn=>?_
    rw[hj j (λz=>hn (Jp _ z)),Yw (λz=>hn (by rw[z];exact JR))]
theorem Qpt{e:QL}{n:Nat}{is:List Nat}(h:PG X e (Qwy X.K n (gNs is)))(hn:is.length=n:=by rfl):PG X e (tG is X.K (gTN is)):=PG.imp h λv σ H Q ⟨F,δ,d,R,rel,dv,hw,k⟩=>by
 unfold gTN at hw;split at hw
 ·obtain⟨hl,hR⟩:=hw;cases dv with
  |@tup a xs ds na e q=>
   exact⟨a,xs,rfl,SqT.of e,by rw[q.length,hl,hn],Qg7 is xs _ σ δ hl rel q λσ' r' st hl' hj=>k _ hR σ' r' st hl' hj⟩
 ·exact hw.elim
def ItD(A S:Addr->Prop)(J:It)(items:List PyData)(H1:Hp):Prop:=items.length<=sizeLine/\∀(H2:Hp)(A':Addr->Prop),(∀b o,S b->H1 b=some o->H2 b=some o)->(∀b,A' b->A b∨H1 b=none)->(∀a,A' a->∃xs,H2 a=some (.lst xs)) ->
 (∀(i:Nat) d,items[i]? = some d->J.go i H2/\∀x H3,J.yld i H2 x H3->Same H2 H3/\DA A' H3 x d)/\J.stop items.length H2
def Sx(m:Md)(F:Fm)(σ:L2.St)(δ:Sts)(b:Addr):Prop:=
 match m with
 |.P=>¬ZD σ δ b
 |_=>¬Av F σ δ b
abbrev DI:=Sts->(List PyData->Prop)->XP->Prop
def tI(m:Md)(K:PySem.W.Frag)(E:XK)(w:DI):TI:=λσ H R=>∃(F:Fm)(δ:Sts)(R':List PyData->Prop)(EX:XP),Rel K F σ H δ/\w δ R' EX/\(∀items,R' items->∀J H',Rel K F σ H' δ->Kp σ δ H H'->ItD (Av F σ δ) (Sx m F σ δ) J items H'->R J H')/\Out F E EX
theorem PI.imp{tg e:QL}{t t':TI}(h:PI X tg e t)(i:∀σ H R,QbC H->t' σ H R->t σ H R):PI X tg e t':=λpins s σ H R I q=>h pins s σ H R I (i σ H R (Inv.lens I) q)
theorem PI.len{tg e:QL}{t:TI}(h:PI X tg e t):PI X tg e (λσ H R=>t σ H λJ H1=>QbC H1->R J H1):=λpins s σ H R I q=>by
 refine thn (h pins s σ H _ I q) λv s1 h1=>thn h1 λitv s2 h2=>?_
 obtain⟨it,fp,tn,J,H',e,I',T,t0,fo,hR⟩:=h2;exact⟨it,fp,tn,J,H',e,I',T,t0,fo,hR (Inv.lens I')⟩
def QwL(w:DE):DI:=λδ Q EX=>w δ (λd=>match d with
 |.list ds=>Q ds
 |_=>False) EX
def QwK(w:DE):DI:=λδ Q EX=>w δ (λd=>match d with
 |.tuple ds=>Q ds
 |_=>False) EX
theorem YQ{A S:Addr->Prop}{H H2:Hp}{A':Addr->Prop}{xs:List V}{ds:List PyData}(sA:∀b,¬A b->S b)(k:∀b o,S b->H b=some o->H2 b=some o)(m:∀b,A' b->A b∨H b=none)(q:DAs A H xs ds):DAs A' H2 xs ds:=q.mv (λa o n e=>k a o (sA a n) e) m
theorem QvQ{K:PySem.W.Frag}{A S:Addr->Prop}{H:Hp}{l:Addr}{xs:List V}{ds:List PyData}(sA:∀b,¬A b->S b)(sl:S l)(e:H l=some (.lst xs))(q:DAs A H xs ds)(ln:xs.length<=sizeLine):ItD A S (Itl K l) ds H:=by
 refine⟨by rw[<- q.length];exact ln,λH2 A' k m dm=>⟨λi d hd=>?_,xs,SqL.of (k _ _ sl e),by rw[q.length];exact Ql _⟩⟩;obtain⟨x,hx,dx⟩:=(YQ sA k m q).get i d hd;refine⟨⟨xs,x,SqL.of (k _ _ sl e),hx⟩,λy H3 ⟨e3,hy⟩=>?_⟩;subst e3;have:=hy xs (SqL.of (k _ _ sl e));rw[hx] at this;cases this;exact⟨Same.refl _,dx⟩
theorem QvO{K:PySem.W.Frag}{A S:Addr->Prop}{H:Hp}{l:Addr}{xs:List V}{ds:List PyData}(sA:∀b,¬A b->S b)(sl:S l)(e:H l=some (.tup xs))(q:DAs A H xs ds)(ln:xs.length<=sizeLine):ItD A S (Itt K l) ds H:=by
 refine⟨by rw[<- q.length];exact ln,λH2 A' k m dm=>⟨λi d hd=>?_,xs,SqT.of (k _ _ sl e),by rw[q.length];exact Ql _⟩⟩;obtain⟨x,hx,dx⟩:=(YQ sA k m q).get i d hd;refine⟨⟨xs,x,SqT.of (k _ _ sl e),hx⟩,λy H3 ⟨e3,hy⟩=>?_⟩;subst e3;have:=hy xs (SqT.of (k _ _ sl e));rw[hx] at this;cases this;exact⟨Same.refl _,dx⟩
theorem Qdj{m:Md}{F:Fm}{σ:L2.St}{δ:Sts}{b:Addr}(h:¬Av F σ δ b):Sx m F σ δ b:=by
 cases m
 ·exact h
 ·exact λz=>h (ZW z)
 ·exact h
theorem stL{m:Md}{F:Fm}{σ:L2.St}{δ:Sts}{H H':Hp}{v:V}{ds:List PyData}(h:VD m (Av F σ δ) (ZD σ δ) H v (.list ds)):∃l xs,v=.ref l/\Sx m F σ δ l/\H l=some (.lst xs)/\DAs (Av F σ δ) H xs ds:=by
 cases m
 ·cases h with | @lst a xs _ n e q=>exact⟨a,xs,rfl,n,e,q⟩
 ·rcases h with h | ⟨l,xs,ds',rfl,e,n,e2,q⟩
  ·cases h with | @lst a xs _ n e q=>exact⟨a,xs,rfl,Qdj n,e,q⟩
  ·cases e;exact⟨l,xs,rfl,n,e2,q⟩
 ·cases h with | @lst a xs _ n e q=>exact⟨a,xs,rfl,n,e,q⟩
theorem stT{m:Md}{F:Fm}{σ:L2.St}{δ:Sts}{H H':Hp}{v:V}{ds:List PyData}(h:VD m (Av F σ δ) (ZD σ δ) H v (.tuple ds)):∃l xs,v=.ref l/\Sx m F σ δ l/\H l=some (.tup xs)/\DAs (Av F σ δ) H xs ds:=by
 cases m
 ·cases h with | @tup a xs _ n e q=>exact⟨a,xs,rfl,n,e,q⟩
 ·rcases h with h | ⟨l,xs,ds',rfl,e,n,e2,q⟩
  ·cases h with | @tup a xs _ n e q=>exact⟨a,xs,rfl,Qdj n,e,q⟩
  ·cases e
 ·cases h with | @tup a xs _ n e q=>exact⟨a,xs,rfl,n,e,q⟩
theorem Qcg{m:Md}{F:Fm}{σ:L2.St}{δ:Sts}{H H':Hp}{v:V}{d:PyData}(h:Vok m F σ δ H H' v d):VD m (Av F σ δ) (ZD σ δ) H' v d:=by
 cases m
 ·exact h
 ·exact h
 ·exact h.1
variable{m:Md}{tg e e':QL}{w w':DE}{p pos tpos:Pos}
theorem Qmr(h:PE X e (tX m X.K E w)):PI X tg e (tI m X.K E (QwL w)):=by
 refine PI.imp (PI.len (Qo8 h)) λσ H R _ ⟨F,δ,R',EX,rel,hw,k,o⟩=>?_
 refine⟨F,δ,_,EX,rel,hw,λd hd v H' rel' kp vk=>?_,o⟩;cases d<;>first | exact(show False from hd).elim | skip
 obtain⟨l,xs,rfl,sl,e,q⟩:=stL (H':=H') (Qcg vk);exact⟨l,rfl,⟨xs,SqL.of e⟩,λln=>k _ hd _ H' rel' kp (QvQ (λb=>Qdj) sl e q (ln _ _ (.inl e)))⟩
theorem Qps(h:PE X e (tX m X.K E w)):PI X tg e (tI m X.K E (QwK w)):=by
 refine PI.imp (PI.len (QsG h)) λσ H R _ ⟨F,δ,R',EX,rel,hw,k,o⟩=>?_
 refine⟨F,δ,_,EX,rel,hw,λd hd v H' rel' kp vk=>?_,o⟩;cases d<;>first | exact(show False from hd).elim | skip
 obtain⟨l,xs,rfl,sl,e,q⟩:=stT (H':=H') (Qcg vk);exact⟨l,rfl,⟨xs,SqT.of e⟩,λln=>k _ hd _ H' rel' kp (QvO (λb=>Qdj) sl e q (ln _ _ (.inr e)))⟩
def Qiv(lo:Int)(n:Nat):List PyData:=(Q9 n).map λ(i:Nat)=>.int (lo+i)
theorem Qae{lo:Int}{n i:Nat}{d:PyData}(h:(Qiv lo n)[i]? = some d):i<n/\d=.int (lo+i):=by
 unfold Qiv at h;rw[Qz] at h;by_cases z:i<n
 ·rw[JV z] at h;exact⟨z,(Qq h).symm⟩
 ·rw[JA (by rw[Ja];omega)] at h;cases h
theorem Qf1{lo:Int}{n:Nat}:(Qiv lo n).length=n:=by unfold Qiv;rw[Qg,Ja]
theorem QvP{A S:Addr->Prop}{H:Hp}{lo:Int}{n:Nat}(hn:n<=1000000):ItD A S (Itr lo n) (Qiv lo n) H:=by
 refine⟨by rw[Qf1];exact QQ hn Qkb,λH2 A' k m dm=>⟨λi d hd=>?_,by rw[Qf1];exact Ql _⟩⟩;obtain⟨hi,rfl⟩:=Qae hd;exact⟨hi,λx H3 ⟨e1,e2⟩=>by subst e1 e2;exact⟨Same.refl _,.int _⟩⟩
def QtU(w:DE):DI:=λδ Q EX=>w δ (λd=>match d with
 |.int j=>(-1000000<=j/\j<=1000000)/\Q (Qiv 0 j.toNat)
 |_=>False) EX
theorem Qmq(hg:Gl X "range")(hm:X.mg "range" = none)(h:PE X e (tX .P X.K E w))(hs:JC e=true:=by rfl):PI X tg (.Call (.Name "range" p) [e] [] pos) (tI m X.K E (QtU w)):=by
 refine PI.imp (Qe9 hg hm (Qcq h Zu hs) (by rw[ZO hs];rfl)) λσ H R _ ⟨F,δ,R',EX,rel,hw,k,o⟩=>?_
 refine⟨F,δ,_,EX,rel,hw,λd hd v H' rel' kp vk=>?_,o⟩;cases d<;>first | exact(show False from hd).elim | skip
 obtain⟨⟨h1,h2⟩,hR⟩:=hd;rw[DP.int vk];exact⟨_,rfl,by omega,by omega,k _ hR _ H' rel' kp (QvP (by omega))⟩
theorem Qeq{A':Addr->Prop}{H2:Hp}{r:Addr}{x y:V}{d d':PyData}(dm:∀a,A' a->∃xs,H2 a=some (.lst xs))(n:H2 r=none)(q:DA A' H2 x d)(q':DA A' H2 y d'):DA A' (upd H2 r (.tup [x,y])) (.ref r) (.tuple [d,d']):=
 .tup (λz=>by obtain⟨xs,e⟩:=dm r z;rw[n] at e;cases e) Jc (.cons (q.same (Jk n)) (.cons (q'.same (Jk n)) .nil))
def Qc4(ds:List PyData):List PyData:=(Q9 ds.length).map λ(i:Nat)=>.tuple [.int i,ds.getD i .none]
theorem QaL{ds:List PyData}{i:Nat}{d:PyData}(h:(Qc4 ds)[i]? = some d):∃e,ds[i]? = some e/\d=.tuple [.int i,e]:=by
 unfold Qc4 at h;rw[Qz] at h;by_cases z:i<ds.length
 ·rw[JV z] at h;refine⟨ds[i],Qm z,?_⟩;rw[<- Qq h];show QaR [.int i,ds.getD i .none]=_;rw[Q2,Qm z];rfl
 ·rw[JA (by rw[Ja];omega)] at h;cases h
theorem Qaj{ds:List PyData}:(Qc4 ds).length=ds.length:=by unfold Qc4;rw[Qg,Ja]
def QwO(w:DE):DI:=λδ Q EX=>w δ (λd=>match d with
 |.list ds=>Q (Qc4 ds)
 |_=>False) EX
def QwN(w:DE):DI:=λδ Q EX=>w δ (λd=>match d with
 |.tuple ds=>Q (Qc4 ds)
 |_=>False) EX
variable{elts:List QL}
theorem QjC{x1}(hg:Gl X "enumerate")(hm:X.mg "enumerate" = none)(h:PE X e (tX m X.K E w))(hs:JC e=true:=by rfl):PI X (.Tuple elts x1 tpos) (.Call (.Name "enumerate" p) [e] [] pos) (tI m X.K E (QwO w)):=by
 refine PI.imp (PI.len (Qo9 hg hm (Qcq h Zu hs) (by rw[ZO hs];rfl))) λσ H R _ ⟨F,δ,R',EX,rel,hw,k,o⟩=>?_
 refine⟨F,δ,_,EX,rel,hw,λd hd v H' rel' kp vk=>?_,o⟩;cases d<;>first | exact(show False from hd).elim | skip
 obtain⟨l,xs,rfl,sl,e,q⟩:=stL (H':=H') (Qcg vk);refine⟨l,xs,rfl,e,λln=>k _ hd _ H' rel' kp ⟨by rw[Qaj,<- q.length];exact ln _ _ (.inl e),λH2 A' kk mm dm=>⟨λi d hd'=>?_,xs,kk _ _ sl e,by rw[Qaj,q.length];exact Ql _⟩⟩⟩;obtain⟨d',hd2,rfl⟩:=QaL hd';obtain⟨x,hx,dx⟩:=(YQ (S:=Sx m F σ δ) (λb=>Qdj) kk mm q).get i d' hd2;refine⟨⟨xs,x,kk _ _ sl e,hx⟩,λy H3 ⟨r,x',nr,hx',e1,e2⟩=>?_⟩;subst e1 e2;have:=hx' xs (kk _ _ sl e);rw[hx] at this;cases this;exact⟨Jk nr,Qeq dm nr (.int _) dx⟩
theorem QjB{x1}(hg:Gl X "enumerate")(hm:X.mg "enumerate" = none)(h:PE X e (tX m X.K E w))(hs:JC e=true:=by rfl):PI X (.Tuple elts x1 tpos) (.Call (.Name "enumerate" p) [e] [] pos) (tI m X.K E (QwN w)):=by
 refine PI.imp (PI.len (Ql4 hg hm (Qcq h Zu hs) (by rw[ZO hs];rfl))) λσ H R _ ⟨F,δ,R',EX,rel,hw,k,o⟩=>?_
 refine⟨F,δ,_,EX,rel,hw,λd hd v H' rel' kp vk=>?_,o⟩;cases d<;>first | exact(show False from hd).elim | skip
 obtain⟨l,xs,rfl,sl,e,q⟩:=stT (H':=H') (Qcg vk);refine⟨l,xs,rfl,e,λln=>k _ hd _ H' rel' kp ⟨by rw[Qaj,<- q.length];exact ln _ _ (.inr e),λH2 A' kk mm dm=>⟨λi d hd'=>?_,xs,kk _ _ sl e,by rw[Qaj,q.length]⟩⟩⟩;obtain⟨d',hd2,rfl⟩:=QaL hd';obtain⟨x,hx,dx⟩:=(YQ (S:=Sx m F σ δ) (λb=>Qdj) kk mm q).get i d' hd2;refine⟨⟨xs,x,kk _ _ sl e,hx⟩,λy H3 ⟨r,x',nr,hx',e1,e2⟩=>?_⟩;subst e1 e2;have:=hx' xs (kk _ _ sl e);rw[hx] at this;cases this;exact⟨Jk nr,Qeq dm nr (.int _) dx⟩
def QeS(ds es:List PyData):List PyData:=List.zipWith (λd e=>.tuple [d,e]) ds es
theorem zip_get{ds es:List PyData}{i:Nat}{d:PyData}(h:(QeS ds es)[i]? = some d):∃a b,ds[i]? = some a/\es[i]? = some b/\d=.tuple [a,b]:=by
 unfold QeS at h;rw[List.getElem?_zipWith] at h;cases h1:ds[i]? with
 |none=>rw[h1] at h;cases h
 |some a=>
  cases h2:es[i]? with
  |none=>rw[h1,h2] at h;cases h
  |some b=>rw[h1,h2] at h;exact⟨a,b,rfl,rfl,(Qq h).symm⟩
theorem Qea{ds es:List PyData}:(QeS ds es).length=min ds.length es.length:=by unfold QeS;rw[List.length_zipWith]
def QwC(w w':DE):DI:=λδ Q EX=>w δ (λd=>w' δ (λd'=>match d,d' with
 |.list ds,.list es=>Q (QeS ds es)
 |_,_=>False) EX) EX
def QwB(w w':DE):DI:=λδ Q EX=>w δ (λd=>w' δ (λd'=>match d,d' with
 |.tuple ds,.tuple es=>Q (QeS ds es)
 |_,_=>False) EX) EX
theorem Qmp{x1}(hg:Gl X "zip")(hm:X.mg "zip" = none)(h:PE X e (tX m X.K E w))(h':PE X e' (tX m X.K E w'))(hs:JC e=true:=by rfl)(hs':JC e'=true:=by rfl):PI X (.Tuple elts x1 tpos) (.Call (.Name "zip" p) [e,e'] [] pos) (tI m X.K E (QwC w w')):=by
 refine PI.imp (PI.len (Qo7 hg hm (Qcq h (Qcq h' Zu hs') hs) (by rw[ZO hs,ZO hs'];rfl) (hs2:=by rw[ZO hs'];rfl))) λσ H R _ ⟨F,δ,R',EX,rel,hw,k,o⟩=>?_
 refine⟨F,δ,_,EX,rel,hw,λd hd v H1 rel1 kp1 vk=>⟨F,δ,_,EX,rel1,hd,λd2 hd2 v2 H2 rel2 kp2 vk2=>?_,o⟩,o⟩;cases d<;>cases d2<;>first | exact(show False from hd2).elim | skip
 obtain⟨l,xs,rfl,sl,e,q⟩:=stL (H':=H2) (kp2.vd (Qcg vk));obtain⟨l2,ys,rfl,sl2,e2,q2⟩:=stL (H':=H2) (Qcg vk2);refine⟨l,l2,xs,ys,rfl,e,e2,λln=>k _ hd2 _ H2 rel2 (kp1.trans kp2) ⟨?_,λH3 A' kk mm dm=>⟨λi d hd'=>?_,xs,ys,kk _ _ sl e,kk _ _ sl2 e2,by rw[Qea,q.length,q2.length];omega⟩⟩⟩
 ·rw[Qea,<- q.length];exact QQ (QrX _ _) (ln _ _ (.inl e))
 obtain⟨a,b,ha,hb,rfl⟩:=zip_get hd';obtain⟨x,hx,dx⟩:=(YQ (S:=Sx m F σ δ) (λb=>Qdj) kk mm q).get i a ha;obtain⟨y,hy,dy⟩:=(YQ (S:=Sx m F σ δ) (λb=>Qdj) kk mm q2).get i b hb;refine⟨⟨xs,ys,x,y,kk _ _ sl e,kk _ _ sl2 e2,hx,hy⟩,λz H4 ⟨r,x',y',nr,hx',hy',e1,e3⟩=>?_⟩;subst e1 e3;have h1:=hx' xs (kk _ _ sl e);have h2:=hy' ys (kk _ _ sl2 e2);rw[hx] at h1;rw[hy] at h2;cases h1;cases h2;exact⟨Jk nr,Qeq dm nr dx dy⟩
theorem Qmo{x1}(hg:Gl X "zip")(hm:X.mg "zip" = none)(h:PE X e (tX m X.K E w))(h':PE X e' (tX m X.K E w'))(hs:JC e=true:=by rfl)(hs':JC e'=true:=by rfl):PI X (.Tuple elts x1 tpos) (.Call (.Name "zip" p) [e,e'] [] pos) (tI m X.K E (QwB w w')):=by
 refine PI.imp (PI.len (QsF hg hm (Qcq h (Qcq h' Zu hs') hs) (by rw[ZO hs,ZO hs'];rfl) (hs2:=by rw[ZO hs'];rfl))) λσ H R _ ⟨F,δ,R',EX,rel,hw,k,o⟩=>?_
 refine⟨F,δ,_,EX,rel,hw,λd hd v H1 rel1 kp1 vk=>⟨F,δ,_,EX,rel1,hd,λd2 hd2 v2 H2 rel2 kp2 vk2=>?_,o⟩,o⟩;cases d<;>cases d2<;>first | exact(show False from hd2).elim | skip
 obtain⟨l,xs,rfl,sl,e,q⟩:=stT (H':=H2) (kp2.vd (Qcg vk));obtain⟨l2,ys,rfl,sl2,e2,q2⟩:=stT (H':=H2) (Qcg vk2);refine⟨l,l2,xs,ys,rfl,e,e2,λln=>k _ hd2 _ H2 rel2 (kp1.trans kp2) ⟨?_,λH3 A' kk mm dm=>⟨λi d hd'=>?_,xs,ys,kk _ _ sl e,kk _ _ sl2 e2,by rw[Qea,q.length,q2.length];omega⟩⟩⟩
 ·rw[Qea,<- q.length];exact QQ (QrX _ _) (ln _ _ (.inr e))
 obtain⟨a,b,ha,hb,rfl⟩:=zip_get hd';obtain⟨x,hx,dx⟩:=(YQ (S:=Sx m F σ δ) (λb=>Qdj) kk mm q).get i a ha;obtain⟨y,hy,dy⟩:=(YQ (S:=Sx m F σ δ) (λb=>Qdj) kk mm q2).get i b hb;refine⟨⟨xs,ys,x,y,kk _ _ sl e,kk _ _ sl2 e2,hx,hy⟩,λz H4 ⟨r,x',y',nr,hx',hy',e1,e3⟩=>?_⟩;subst e1 e3;have h1:=hx' xs (kk _ _ sl e);have h2:=hy' ys (kk _ _ sl2 e2);rw[hx] at h1;rw[hy] at h2;cases h1;cases h2;exact⟨Jk nr,Qeq dm nr dx dy⟩
end
def Qrz:Option Sl->Sl
 |some (.v d)=>.v d
 |some (.own ds)=>.pk ds
 |some (.pk ds)=>.pk ds
 |some .pot=>.pot
 |_=>.no
def QcC(cap:List (Option Nat))(δ:Sts):Sts:=cap.map λo=>match o with
 |none=>.no
 |some j=>Qrz δ[j]?
theorem QeE{cap:List (Option Nat)}{σ:L2.St}{i:Nat}{o:Option V}(h:(Qb9 cap σ)[i]? = some o):(cap[i]? = some none/\o=none)∨∃j,cap[i]? = some (some j)/\o=(σ[j]?).getD none:=by
 unfold Qb9 at h;rw[Qz] at h;obtain⟨c,hc,rfl⟩:=Jw.mp h;cases c with
 |none=>exact .inl ⟨hc,rfl⟩
 |some j=>exact .inr ⟨j,hc,rfl⟩
theorem QeF{cap:List (Option Nat)}{δ:Sts}{i:Nat}{x:Sl}(h:(QcC cap δ)[i]? = some x):(cap[i]? = some none/\x=.no)∨∃j,cap[i]? = some (some j)/\x=Qrz δ[j]? := by
 unfold QcC at h;rw[Qz] at h;obtain⟨c,hc,rfl⟩:=Jw.mp h;cases c with
 |none=>exact .inl ⟨hc,rfl⟩
 |some j=>exact .inr ⟨j,hc,rfl⟩
theorem YS{cap:List (Option Nat)}{σ:L2.St}{δ:Sts}{i:Nat}{o:Option V}{x:Sl}(h1:(Qb9 cap σ)[i]? = some o)(h2:(QcC cap δ)[i]? = some x)(hx:x≠.no):∃(j:Nat)(y:Sl),δ[j]? = some y/\x=Qrz (some y)/\o=(σ[j]?).getD none:=by
 rcases QeF h2 with⟨_,e⟩ | ⟨j,hj,e⟩
 ·exact absurd e hx
 ·rcases QeE h1 with⟨z,_⟩ | ⟨j',hj',e'⟩
  ·rw[hj] at z;cases z
  ·rw[hj] at hj';cases hj';cases e2:δ[j]? with
   |none=>rw[e2] at e;exact absurd e hx
   |some y=>exact⟨j,y,e2,by rw[e,e2],e'⟩
theorem Qa9{cap:List (Option Nat)}{σ:L2.St}{δ:Sts}{a:Addr}(h:ZD (Qb9 cap σ) (QcC cap δ) a):ZD σ δ a:=by
 obtain⟨i,h1,h2⟩:=h;obtain⟨j,y,hy,e,eo⟩:=YS h1 h2 (λz=>by cases z);cases y<;>first | (cases e;done) | skip
 refine⟨j,?_,hy⟩;cases e2:σ[j]? with
 |none=>rw[e2] at eo;cases eo
 |some o'=>rw[e2] at eo;exact congrArg some eo.symm
def inF(A1:Addr->Prop)(cap:List (Option Nat))(σ:L2.St)(δ:Sts)(H:Hp):Fm:=⟨H,A1,ZD (Qb9 cap σ) (QcC cap δ)⟩
theorem Qg5{A1:Addr->Prop}{cap:List (Option Nat)}{σ:L2.St}{δ:Sts}{H:Hp}(h:∀a,ZD σ δ a->A1 a){a:Addr}:Av (inF A1 cap σ δ H) (Qb9 cap σ) (QcC cap δ) a↔A1 a:=by
 constructor
 ·rintro(z | ⟨i,h1,h2⟩)
  ·exact z
  ·rcases h2 with h2 | ⟨ds,h2⟩
   ·exact h a (Qa9 ⟨i,h1,h2⟩)
   ·obtain⟨j,y,hy,e,eo⟩:=YS h1 h2 (λz=>by cases z);cases y<;>cases e
 ·exact .inl
theorem Qko{K:PySem.W.Frag}{F:Fm}{σ:L2.St}{δ:Sts}{H1 H3:Hp}{A1:Addr->Prop}{cap:List (Option Nat)}(rel:Rel K F σ H1 δ)(hA:∀a,Av F σ δ a->A1 a)(hN:∀a,A1 a->Av F σ δ a∨H1 a=none)
  (dm:∀a,A1 a->∃xs,H3 a=some (.lst xs))(kp:Kp σ δ H1 H3):Rel K (inF A1 cap σ δ H3) (Qb9 cap σ) H3 (QcC cap δ) where
 len:=by unfold Qb9 QcC;rw[Qg,Qg]
 dom:=dm
 dom0:=dm
 pt0:=λp hp=>⟨hA p (ZW (Qa9 hp)),kp.2 p (Qa9 hp)⟩
 kx:=λb o _ e=>e
 sl:=λi o x h1 h2=>by
  have iv:∀{a:Addr},Av (inF A1 cap σ δ H3) (Qb9 cap σ) (QcC cap δ) a->A1 a:=λ{a}=>(Qg5 λa z=>hA a (ZW z)).mp
  have mv:∀{v:V}{d:PyData},DA (Av F σ δ) H1 v d->DA (Av (inF A1 cap σ δ H3) (Qb9 cap σ) (QcC cap δ)) H3 v d:=λq=>q.mv (λa o n e=>kp.1 a o (λz=>n (ZW z)) e) λa z=>hN a (iv z)
  have mvs:∀{v:List V}{d:List PyData},DAs (Av F σ δ) H1 v d->DAs (Av (inF A1 cap σ δ H3) (Qb9 cap σ) (QcC cap δ)) H3 v d:=λq=>q.mv (λa o n e=>kp.1 a o (λz=>n (ZW z)) e) λa z=>hN a (iv z)
  cases x with
  |no=>trivial
  |own ds=>
   obtain⟨j,y,hy,e,eo⟩:=YS h1 h2 (λz=>by cases z);cases y<;>cases e
  |scr=>
   obtain⟨j,y,hy,e,eo⟩:=YS h1 h2 (λz=>by cases z);cases y<;>cases e
  |v d=>
   obtain⟨j,y,hy,e,eo⟩:=YS h1 h2 (λz=>by cases z);cases y<;>first | (cases e;done) | skip
   cases e;obtain⟨x,hx⟩:=rel.lt hy;obtain⟨v,rfl,q⟩:=rel.sl j _ _ hx hy;rw[hx] at eo;exact⟨v,eo,mv q⟩
  |pk ds=>
   obtain⟨j,y,hy,e,eo⟩:=YS h1 h2 (λz=>by cases z);cases y<;>first | (cases e;done) | skip
   ·cases e;obtain⟨x,hx⟩:=rel.lt hy;obtain⟨l,xs,rfl,e,q,f⟩:=rel.sl j _ _ hx hy;rw[hx] at eo;have np:=rel.own_pot hy hx;exact⟨l,xs,eo,kp.1 _ _ np e,mvs q,xs,kp.1 _ _ np e,λz=>np (Qa9 z)⟩
   ·cases e;obtain⟨x,hx⟩:=rel.lt hy;obtain⟨l,xs,rfl,e,q,ys,f,f2⟩:=rel.sl j _ _ hx hy;rw[hx] at eo;have np:¬ZD σ δ l:=by
     rintro⟨j,j1,j2⟩;obtain⟨p,m,e1,_,w⟩:=rel.sl j _ _ j1 j2;cases e1;rcases w with w | w
     ·exact f2 w
     ·rw[w] at f;cases f
    exact⟨l,xs,eo,kp.1 _ _ np e,mvs q,xs,kp.1 _ _ np e,λz=>np (Qa9 z)⟩
  |pot=>
   obtain⟨j,y,hy,e,eo⟩:=YS h1 h2 (λz=>by cases z);cases y<;>first | (cases e;done) | skip
   obtain⟨x,hx⟩:=rel.lt hy;obtain⟨p,n,rfl,e,q⟩:=rel.sl j _ _ hx hy;rw[hx] at eo;obtain⟨m,em⟩:=kp.2 p ⟨j,hx,hy⟩;have eo':o=some (.ref p):=eo;subst eo';exact⟨p,m,rfl,em,.inl ⟨i,h1,h2⟩⟩
 inj:=λi j a ds h1 h2 _=>by
  obtain⟨j,y,hy,e,eo⟩:=YS h2 h1 (λz=>by cases z);cases y<;>cases e
theorem Qlw:∀{σ σ':L2.St},σ'.length=σ.length->(∀(i:Nat) v,σ[i]? = some (some v)->σ'[i]? = some (some v))->Wk σ σ'
 |[],[],_,_=>trivial
 |[],_::_,h,_=>by cases h
 |_::_,[],h,_=>by cases h
 |none::a,x::b,h,g=>Qlw (σ:=a) (σ':=b) (by simpa using h) λi v e=>by simpa using g (i+1) v (by simpa using e)
 |some u::a,x::b,h,g=>by
  have h0:=g 0 u rfl;simp only[QgA,Option.some.injEq] at h0;subst h0;exact⟨rfl,Qlw (σ:=a) (σ':=b) (by simpa using h) λi v e=>by simpa using g (i+1) v (by simpa using e)⟩
def Qai(cap:List (Option Nat))(ix:List Nat):Bool:=ix.all λi=>match cap[i]? with
 |some none=>true
 |_=>false
theorem Qn9{cap:List (Option Nat)}{ix:List Nat}(hf:Qai cap ix=true){σ σ4:L2.St}(hl:σ4.length=(Qb9 cap σ).length)(hj:∀j,j∉ix->σ4[j]? = (Qb9 cap σ)[j]?):Wk (Qb9 cap σ) σ4:=by
 refine Qlw hl λi v e=>?_
 by_cases z:i∈ix
 ·have:=J6.mp hf i z;rcases QeE e with⟨_,e2⟩ | ⟨j,hj2,_⟩
  ·cases e2
  ·rw[hj2] at this;cases this
 ·rw[hj i z];exact e
def XF:XP:=λ_=>False
@[irreducible] def QfH(items:List PyData)(wg:DG)(wt:DT)(we:DE)(δ:Sts)(Q:PyData->Prop):Prop:=∃Iv:Nat->List PyData->Prop,Iv 0 [] /\
 (∀(i:Nat) acc d,items[i]? = some d->Iv i acc->wg d δ λδ4=>wt δ4 (λb=>if b=true then we δ4 (λe=>Iv (i+1) (acc++[e])) XF else Iv (i+1) acc) XF)/\∀acc,Iv items.length acc->Q (.list acc)
def dComp(cap:List (Option Nat))(wi:DI)(wg:DG)(wt:DT)(we:DE):DE:=λδ Q EX=>wi δ (λitems=>QfH items wg wt we (QcC cap δ) Q) EX
def QrR:DT:=λ_ Q _=>Q true
section
variable{X:Cx}{E:XK}
theorem Qiw{F:Fm}{E:XK}:Out F E XF:=λ_ z=>z.elim
theorem PTs.imp{es:List QL}{t t':TT}(h:PTs X es t)(i:∀σ H Q,t' σ H Q->t σ H Q):PTs X es t':=λpins s σ H Q I q=>h pins s σ H Q I (i σ H Q q)
theorem Qme:PTs X [] (tT X.K E QrR):=PTs.imp Qo1 λσ H Q ⟨F,δ,R,EX,rel,hw,k,o⟩=>k _ hw H rel (Kp.refl rel)
theorem Qmd{c:QL}{t:DT}(h:PT X c (tT X.K E t)):PTs X [c] (tT X.K E t):=Qo0 h
theorem Qgi{K:PySem.W.Frag}{A1:Addr->Prop}{cap:List (Option Nat)}{σ σ4:L2.St}{δ δ4:Sts}{H3 H4:Hp}(r:Rel K (inF A1 cap σ δ H3) σ4 H4 δ4)(hk:∀b o,¬ZD σ δ b->H4 b=some o->H3 b=none->False){b:Addr}(h:ZD σ4 δ4 b):ZD σ δ b:=by
 obtain⟨i,h1,h2⟩:=h;obtain⟨p,n,e,hp,w⟩:=r.sl i _ _ h1 h2;cases e;rcases w with w | w
 ·exact Qa9 w
 ·by_cases z:ZD σ δ b
  ·exact z
  ·exact(hk b _ z hp w).elim
theorem QfU{K:PySem.W.Frag}{F:Fm}{σ:L2.St}{δ:Sts}{H1 H3:Hp}{cap:List (Option Nat)}{ix:List Nat}{wg:DG}{wt:DT}{A1:Addr->Prop}{x:V}{d:PyData}{inner:L2.St->Hp->(Hp->Prop)->Prop}{kk:Hp->Prop}{T:Sts->Prop}{N:Prop}
  (hf:Qai cap ix=true)(rel:Rel K F σ H1 δ)(hA:∀a,Av F σ δ a->A1 a)(hN:∀a,A1 a->Av F σ δ a∨H1 a=none)(dm:∀a,A1 a->∃xs,H3 a=some (.lst xs))(kp:Kp σ δ H1 H3)(dx:DA A1 H3 x d)
  (h:wg d (QcC cap δ) λδ4=>wt δ4 (λb=>if b=true then T δ4 else N) XF)
  (hT:∀σ4 δ4 H5,T δ4->Rel K (inF A1 cap σ δ H3) σ4 H5 δ4->Kp σ δ H3 H5->(∀b,ZD σ4 δ4 b->ZD σ δ b)->inner σ4 H5 kk)(hF:N->∀H5,Kp σ δ H3 H5->kk H5) :
  bOf (Qb9 cap σ) (tG ix K wg) (tT K E0 wt) inner x H3 kk:=by
 have ri:=Qko (cap:=cap) rel hA hN dm kp;have iv:∀{a:Addr},Av (inF A1 cap σ δ H3) (Qb9 cap σ) (QcC cap δ) a->A1 a:=λ{a}=>(Qg5 λa z=>hA a (ZW z)).mp
 refine⟨inF A1 cap σ δ H3,QcC cap δ,d,_,ri,dx.mv (λ_ _ _ e=>e) λa z=>.inl (iv z),h,λδ4 h4 σ4 r4 st4 l4 j4=>⟨Qn9 hf l4 j4,inF A1 cap σ δ H3,δ4,_,XF,r4,h4,λb hb H5 r5 kp5=>?_,Qiw⟩⟩;have pots:∀{b:Addr},ZD σ4 δ4 b->ZD σ δ b:=λz=>Qgi r4 (λb o _ e1 e2=>by rw[e2] at e1;cases e1) z
 have K5:Kp σ δ H3 H5:=by
  refine⟨λb o n e=>kp5.1 b o (λz=>n (pots z)) e,λb hb=>?_⟩;by_cases z:ZD σ4 δ4 b
  ·exact kp5.2 b z
  ·obtain⟨n,e⟩:=kp.2 b hb;exact⟨n,kp5.1 _ _ z e⟩
 exact QaY hb (λz=>hT σ4 δ4 H5 z r5 K5 λb=>pots) λz=>hF z H5 K5
structure Lp (σ:L2.St) (δ:Sts) (A1:Addr->Prop) (p:Addr) (H1 H2:Hp) (acc:List PyData):Prop where
 kp:Kp σ δ H1 H2
 at_:∃ys,H2 p=some (.lst ys)/\DAs A1 H2 ys acc
theorem Lp.step{σ:L2.St}{δ:Sts}{A1:Addr->Prop}{p:Addr}{H1 H2 H3:Hp}{acc:List PyData}(hpA:∀a,ZD σ δ a->A1 a)(hpn:¬ZD σ δ p)(h:Lp σ δ A1 p H1 H2 acc)(k:Kp σ δ H2 H3):Lp σ δ A1 p H1 H3 acc:=by
 obtain⟨ys,e,q⟩:=h.at_;exact⟨h.kp.trans k,ys,k.1 _ _ hpn e,q.mv (λa o n e=>k.1 a o (λz=>n (hpA a z)) e) λa z=>.inl z⟩
theorem Qkz{K:PySem.W.Frag}{σ σ4:L2.St}{δ δ4:Sts}{H1 H3 H5:Hp}{cap:List (Option Nat)}{we:DE}{A1:Addr->Prop}{p:Addr}{acc:List PyData}{kk:Hp->Prop}{G:PyData->Prop}
  (hpA:A1 p)(hP:∀a,ZD σ δ a->A1 a)(hp1:H1 p=none)(hpn:¬ZD σ δ p)(lp:Lp σ δ A1 p H1 H5 acc)(hl:acc.length<sizeLine)(r5:Rel K (inF A1 cap σ δ H3) σ4 H5 δ4)(pots:∀b,ZD σ4 δ4 b->ZD σ δ b)
  (h:we δ4 G XF)(hk:∀e,G e->∀H',Lp σ δ A1 p H1 H' (acc++[e])->kk H'):Qt5 p (tX .D K E0 we) σ4 H5 kk:=by
 refine⟨inF A1 cap σ δ H3,δ4,G,XF,r5,h,λe he v H6 r6 kp6 dv=>?_,Qiw⟩;have k56:Kp σ δ H5 H6:=by
  refine⟨λb o n e=>kp6.1 b o (λz=>n (pots b z)) e,λb hb=>?_⟩;by_cases z:ZD σ4 δ4 b
  ·exact kp6.2 b z
  ·obtain⟨n,e⟩:=lp.kp.2 b hb;exact⟨n,kp6.1 _ _ z e⟩
 obtain⟨k6,ys,e6,q6⟩:=lp.step hP hpn k56;have up:∀{b:Addr}{o:HO},¬A1 b->H6 b=some o->upd H6 p (.lst (ys++[v])) b=some o:=λ{b o} n e=>by rw[Jb (λz=>n (by rw[z];exact hpA))];exact e
 refine⟨ys,e6,by rw[q6.length];exact hl,hk e he _ ⟨⟨λb o n e=>?_,λb hb=>?_⟩,ys++[v],Jc,DAs.app (q6.mv (λ_ _=>up) λa z=>.inl z) (.cons (DA.mv dv (λa o n e=>up (λz=>n (.inl z)) e) λa z=>.inl (.inl z)) .nil)⟩⟩
 ·rw[Jb (λz=>by rw[z,hp1] at e;cases e)];exact k6.1 b o n e
 ·rw[Jb (λz=>hpn (by rw[<- z];exact hb))];exact k6.2 b hb
theorem Qpx{M:List Str}{cap:List (Option Nat)}{elt tg iter:QL}{ifs:List QL}{scope:ZK}{pos:Pos}{ix:List Nat}{wi:DI}{wg:DG}{wt:DT}{we:DE}(hc:X.calm=true)(ok:Qca X.N X.env.scope M scope cap=true)(hf:Qai cap ix=true)
  (hi:PI X tg iter (tI .P X.K E wi))(hb:∀cl ex s3 H3 C,PG (blk X M scope cl ex s3 H3 C) tg (tG ix X.K wg)/\PTs (blk X M scope cl ex s3 H3 C) ifs (tT X.K E0 wt)/\PE (blk X M scope cl ex s3 H3 C) elt (tX .D X.K E0 we))
  (hs:∀x,foldedSetIterable iter X.env x=pure x:=by intro _;rfl):PE X (.ListComp elt [⟨tg,iter,ifs,0⟩] scope pos) (tX .F X.K E (dComp cap wi wg wt we)):=by
 refine PE.imp (Ql7 hc ok hi hb hs) λσ H Q ⟨F,δ,R,EX,rel,hw,k,o⟩=>?_
 refine⟨F,δ,_,EX,rel,hw,λitems hC J H1 rel1 kp1 ⟨ln,it⟩ p hp=>?_,o⟩;unfold QfH at hC;obtain⟨Iv,i0,step,fin⟩:=hC;have hpn:¬ZD σ δ p:=λz=>by obtain⟨xs,e⟩:=rel1.isl (ZW (F:=F) z);rw[hp] at e;cases e
 let A1:Addr->Prop:=λa=>Av F σ δ a∨a=p
 have hP:∀a,ZD σ δ a->A1 a:=λa z=>.inl (ZW z)
 have hN:∀a,A1 a->Av F σ δ a∨H1 a=none:=λa z=>z.elim .inl λz=>.inr (by rw[z];exact hp)
 have dmK:∀{H2:Hp},Kp σ δ H1 H2->(∃ys,H2 p=some (.lst ys))->∀a,A1 a->∃xs,H2 a=some (.lst xs):=λ{H2} k2 e2 a z=>by
  rcases z with z | z
  ·exact(rel1.kp k2).isl z
  ·rw[z];exact e2
 refine QcY items.length (λi H2=>i<=items.length/\∃acc,Iv i acc/\acc.length<=i/\Lp σ δ A1 p H1 H2 acc) ⟨Jx _,[],i0,Ql _,Kp.same rel1 (Jk hp),[],Jc,.nil⟩ (λi H2 hi ⟨_,acc,iv,hl,lp⟩=>?_) λH2 ⟨_,acc,iv,hl,lp⟩=>?_
 ·obtain⟨k2,ys,e2,q2⟩:=lp;obtain⟨go,_⟩:=it H2 A1 (λb o n e=>k2.1 b o n e) hN (dmK k2 ⟨ys,e2⟩);have hd:items[i]? = some items[i]:=Qm hi;obtain⟨g1,g2⟩:=go i _ hd;refine⟨g1,λx H3 y kk hk=>?_⟩;obtain⟨s3,dx⟩:=g2 x H3 y;have k23:=Kp.same (rel1.kp k2) s3;have lp3:Lp σ δ A1 p H1 H3 acc:=Lp.step hP hpn ⟨k2,ys,e2,q2⟩ k23;refine QfU hf rel1 (λa z=>.inl z) hN (dmK lp3.kp ⟨ys,s3 _ _ e2⟩) lp3.kp dx (step i acc _ hd iv) (λσ4 δ4 H5 h5 r5 k5 pots=>?_) λh5 H5 k5=>hk _ ⟨hi,acc,h5,by omega,lp3.step hP hpn k5⟩
  exact Qkz (.inr rfl) hP hp hpn (lp3.step hP hpn k5) (by omega) r5 pots h5 λe he H' lp'=>hk _ ⟨hi,acc++[e],he,by rw[QF];show _+1<=_;omega,lp'⟩
 ·obtain⟨k2,ys,e2,q2⟩:=lp;obtain⟨_,st⟩:=it H2 A1 (λb o n e=>k2.1 b o n e) hN (dmK k2 ⟨ys,e2⟩);refine⟨st,k _ (fin acc iv) (.ref p) H2 (rel1.kp k2) (kp1.trans k2) ⟨.lst (λz=>?_) e2 (q2.mv (λ_ _ _ e=>e) λa z=>.inl (.inl z)),λl e1 _=>?_⟩⟩
  ·obtain⟨xs,e⟩:=rel1.isl z;rw[hp] at e;cases e
  ·cases e1;exact YX kp1 hp
theorem Qt1{items:List PyData}{wg:DG}{wt:DT}{we:DE}{δ:Sts}{Q:PyData->Prop}(G:PyData->Option PyData)
  (h:∀d∈items,∀(k1:Prop)(k2:PyData->Prop),(G d=none->k1)->(∀e,G d=some e->k2 e)->wg d δ λδ4=>wt δ4 (λb=>if b=true then we δ4 k2 XF else k1) XF)(q:Q (.list (items.filterMap G))) :
  QfH items wg wt we δ Q:=by
 unfold QfH;refine⟨λi acc=>acc=(items.take i).filterMap G,by simp,λi acc d hd e=>?_,λacc e=>by rw[e,ZM];exact q⟩;have hs:(items.take (i+1)).filterMap G=(items.take i).filterMap G++(G d).toList:=by
  rw[Zf,hd,Qio];cases e2:G d<;>simp[e2]
 have e:acc=(items.take i).filterMap G:=e;refine h d (QM hd) _ _ (λe2=>?_) λe' e2=>?_
 ·show acc=(items.take (i+1)).filterMap G;rw[hs,e2,e];simp
 ·show acc++[e']=(items.take (i+1)).filterMap G;rw[hs,e2,e];rfl
theorem Yg{items:List PyData}{wg:DG}{we:DE}{δ:Sts}{Q:PyData->Prop}(G:PyData->PyData)
  (h:∀d∈items,∀(k2:PyData->Prop),k2 (G d)->wg d δ λδ4=>we δ4 k2 XF)(q:Q (.list (items.map G))) :
  QfH items wg QrR we δ Q:=by
 unfold QfH;refine⟨λi acc=>acc=(items.take i).map G,by simp,λi acc d hd e=>?_,λacc e=>by rw[e,ZM];exact q⟩;have hs:(items.take (i+1)).map G=(items.take i).map G++[G d]:=by
  rw[Zf,hd,ZC];simp
 have e:acc=(items.take i).map G:=e;have hh:=h d (QM hd) (λe=>acc++[e]=(items.take (i+1)).map G) (by show acc++[G d]=_;rw[hs,e]);simp only[QrR,if_true];exact hh
end
theorem QkA:∀{a b:List (Int×Int)},dkV a=dkV b->a=b
 |[],[],_=>rfl
 |[],_::_,h=>by cases h
 |_::_,[],h=>by cases h
 |p::a,q::b,h=>by
  have h:=List.cons.inj (show(Qbh p.1,V.int p.2)::dkV a=(Qbh q.1,V.int q.2)::dkV b from h);have h1:=Prod.mk.inj h.1;rw[QkA h.2,Prod.ext (QrV h1.1) (V.int.inj h1.2)]
mutual
theorem QkE{A B:Addr->Prop}{H:Hp}:∀(d d':PyData)(x:V),DA A H x d->DA B H x d'->d=d'
 |.none,d',_,.non,h=>by cases h;rfl
 |.bool _,d',_,.bl _,h=>by cases h;rfl
 |.int _,d',_,.int _,h=>by cases h;rfl
 |.str _,d',_,.str _ _,h=>by cases h;rfl
 |.tuple ds,d',_,.tup (xs:=xs) n e q,h=>by
  cases h with
  |@tup a ys es n' e' q'=>
   rw[e] at e';cases e';rw[QeA ds es xs q q']
  |@lst a ys es n' e' q'=>rw[e] at e';cases e'
  |@dct a kvs' ds' n' e' q'=>rw[e] at e';cases e'
 |.list ds,d',_,.lst (xs:=xs) n e q,h=>by
  cases h with
  |@tup a ys es n' e' q'=>rw[e] at e';cases e'
  |@lst a ys es n' e' q'=>
   rw[e] at e';cases e';rw[QeA ds es xs q q']
  |@dct a kvs' ds' n' e' q'=>rw[e] at e';cases e'
 |.dict _,d',_,.dct (kvs:=kvs) n e q,h=>by
  cases h with
  |@tup a ys es n' e' q'=>rw[e] at e';cases e'
  |@lst a ys es n' e' q'=>rw[e] at e';cases e'
  |@dct a kvs' ds' n' e' q'=>
   rw[e] at e';rw[q,q',QkA (HO.dK.inj (Qq e'))]
theorem QeA{A B:Addr->Prop}{H:Hp}:∀(ds es:List PyData)(xs:List V),DAs A H xs ds->DAs B H xs es->ds=es
 |[],es,_,.nil,h=>by cases h;rfl
 |d::ds,es,_,.cons q qs,h=>by
  cases h with
  |@cons x xs e es q' qs'=>rw[QkE d e _ q q',QeA ds es _ qs qs']
end
mutual
theorem QtQ{A:Addr->Prop}{H:Hp}{l:Addr}{rs:List PyData}(root:DA A H (.ref l) (.list rs)):∀(d:PyData)(x:V),sizeOf d<sizeOf (Quh rs)->DA A H x d->DA (λa=>A a∨a=l) H x d
 |.none,_,_,.non=>.non
 |.bool _,_,_,.bl _=>.bl _
 |.int _,_,_,.int _=>.int _
 |.str _,_,_,.str _ c=>.str _ c
 |.tuple ds,_,hs,.tup (a:=a) (xs:=xs) n e q=>.tup (λz=>z.elim n λz=>by subst z;cases root with | @lst _ ys _ n' e' q'=>(rw[e] at e';cases e')) e (QeB root ds xs (by simp at hs ⊢;omega) q)
 |.list ds,_,hs,.lst (a:=a) (xs:=xs) n e q=>.lst (λz=>z.elim n λz=>by
   subst z;have:=QkE _ _ _ root (.lst n e q);rw[this] at hs;omega) e (QeB root ds xs (by simp at hs ⊢;omega) q)
 |.dict _,_,hs,.dct (a:=a) n e q=>.dct (λz=>z.elim n λz=>by subst z;cases root with | @lst _ ys _ n' e' q'=>(rw[e] at e';cases e')) e q
theorem QeB{A:Addr->Prop}{H:Hp}{l:Addr}{rs:List PyData}(root:DA A H (.ref l) (.list rs)):∀(ds:List PyData)(xs:List V),sizeOf ds<sizeOf (Quh rs)->DAs A H xs ds->DAs (λa=>A a∨a=l) H xs ds
 |[],_,_,.nil=>.nil
 |d::ds,_,hs,.cons q qs=>.cons (QtQ root d _ (by simp at hs ⊢;omega) q) (QeB root ds _ (by simp at hs ⊢;omega) qs)
end
theorem DA.items{A:Addr->Prop}{H:Hp}{l:Addr}{ds:List PyData}(root:DA A H (.ref l) (.list ds)):∃xs,H l=some (.lst xs)/\DAs (λa=>A a∨a=l) H xs ds:=by
 have root':=root;cases root with
 |@lst _ xs _ n e q=>exact⟨xs,e,QeB root' ds xs (by simp) q⟩
structure Qde where
 nx:Sts->Prop
 rt:PyData->Prop
 rtF:PyData->Prop
 bk:Sts->Prop
 ct:Sts->Prop
 ex:XP
abbrev DS:=Qde->Sts->Prop
structure Nx (K:PySem.W.Frag) (F:Fm) (σ:L2.St) (H:Hp) (δ:Sts) (R:Sts->Prop) (T:L2.St->Hp->Prop):Prop where
 go:∀δ',R δ'->∀σ' H',Rel K F σ' H' δ'->Stp F σ H δ σ' H' δ'->T σ' H'
structure Ends1 (K:PySem.W.Frag) (E:XK) (F:Fm) (σ:L2.St) (H:Hp) (δ:Sts) (DD:Qde) (D:Ends):Prop where
 nx:Nx K F σ H δ DD.nx D.nx
 rt:∀d,DD.rt d->∀v H',Ke F H'->DA F.A0 H' v d->D.rt v H'
 rtF:∀d,DD.rtF d->∀v H',Ke F H'->DA F.A0 H' v d->FrV F.H0 H' v->D.rt v H'
 bk:Nx K F σ H δ DD.bk D.bk
 ct:Nx K F σ H δ DD.ct D.ct
 ex:Out F E DD.ex
def tS(K:PySem.W.Frag)(E:XK)(w:DS):TS:=λD σ H=>∃(F:Fm)(δ:Sts)(DD:Qde),Rel K F σ H δ/\w DD δ/\Ends1 K E F σ H δ DD D
theorem Nx.step{K:PySem.W.Frag}{F:Fm}{σ σ1:L2.St}{H H1:Hp}{δ δ1:Sts}{R:Sts->Prop}{T:L2.St->Hp->Prop}(h:Nx K F σ H δ R T)(s:Stp F σ H δ σ1 H1 δ1):Nx K F σ1 H1 δ1 R T:=⟨λδ' hR σ' H' r st=>h.go δ' hR σ' H' r (s.trans st)⟩
theorem Ends1.step{K:PySem.W.Frag}{E:XK}{F:Fm}{σ σ1:L2.St}{H H1:Hp}{δ δ1:Sts}{DD:Qde}{D:Ends}(h:Ends1 K E F σ H δ DD D)(s:Stp F σ H δ σ1 H1 δ1):Ends1 K E F σ1 H1 δ1 DD D:=⟨h.nx.step s,h.rt,h.rtF,h.bk.step s,h.ct.step s,h.ex⟩
section
variable{X:Cx}{E:XK}
theorem PS.imp{e:ZA}{t t':TS}(h:PS X e t)(i:∀D σ H,t' D σ H->t D σ H):PS X e t':=λpins s σ H D I q=>h pins s σ H D I (i D σ H q)
theorem PSs.imp{e:List ZA}{t t':TS}(h:PSs X e t)(i:∀D σ H,t' D σ H->t D σ H):PSs X e t':=λpins s σ H D I q=>h pins s σ H D I (i D σ H q)
def QwE(a b:DS):DS:=λD δ=>a { D with nx:=b D } δ
def QtS:DS:=λD δ=>D.nx δ
theorem Qmf:PSs X [] (tS X.K E QtS):=PSs.imp Qen λD σ H ⟨F,δ,DD,rel,hw,en⟩=>en.nx.go δ hw σ H rel Stp.refl
theorem Qpn{st:ZA}{w:DS}(h:PS X st (tS X.K E w)):PSs X [st] (tS X.K E w):=Qaf h
theorem Qmk{st:ZA}{rest:List ZA}{w w':DS}(h:PS X st (tS X.K E w))(h':PSs X rest (tS X.K E w')):PSs X (st::rest) (tS X.K E (QwE w w')):=by
 refine PSs.imp (Zr h h') λD σ H ⟨F,δ,DD,rel,hw,en⟩=>?_
 exact⟨F,δ,_,rel,hw,⟨λδ' h' σ' H' r st=>⟨F,δ',DD,r,h',en.step st⟩⟩,en.rt,en.rtF,en.bk,en.ct,en.ex⟩
def QuB(i:Nat)(we:DE):DS:=λD δ=>we δ (λd=>D.nx (δ.set i (.v d))) D.ex
def Qro(i:Nat)(we:DE):DS:=λD δ=>we δ (λd=>match d with
 |.list ds=>D.nx (δ.set i (.own ds))
 |_=>False) D.ex
def QtT(i:Nat)(we:DE):DS:=λD δ=>we δ (λd=>match d with
 |.list [.int _]=>D.nx (δ.set i .pot)
 |_=>False) D.ex
variable{i:Nat}{e:QL}{st:ZA}{we wi:DE}
theorem Qf9(h:PS X st (QnC (tX .D X.K E we) (Qex i))):PS X st (tS X.K E (QuB i we)):=by
 refine PS.imp h λD σ H ⟨F,δ,DD,rel,hw,en⟩=>?_
 refine⟨F,δ,_,DD.ex,rel,hw,λd hd v H' rel' kp vk=>?_,en.ex⟩;exact en.nx.go _ hd _ H' (rel'.setv vk) ((Stp.kp kp).trans Stp.setv)
theorem Qoc{F:Fm}{σ:L2.St}{δ:Sts}{i:Nat}{l:Addr}{x:Sl}{a:Addr}(h:Av F (σ.set i (some (.ref l))) (δ.set i x) a):Av F σ δ a∨a=l:=by
 rcases h with h | ⟨j,h1,h2⟩
 ·exact .inl (.inl h)
 ·by_cases z:j=i
  ·subst z;cases set_eq h1;exact .inr rfl
  ·rw[Yw z] at h1 h2;exact .inl (.inr ⟨j,h1,h2⟩)
theorem Rel.seto{K:PySem.W.Frag}{F:Fm}{σ:L2.St}{H H':Hp}{δ:Sts}{l:Addr}{x:Sl}(r:Rel K F σ H δ)(r':Rel K F σ H' δ)(kp:Kp σ δ H H')(n:H l=none)(hx:∀A:Addr->Prop,(∀a,A a->Av F σ δ a∨H a=none)->(∀a,A a->Av F σ δ a∨a=l)->QwR K F H' A (some (.ref l)) x) :
  Rel K F (σ.set i (some (.ref l))) H' (δ.set i x)/\Stp F σ H δ (σ.set i (some (.ref l))) H' (δ.set i x):=by
 have nA:∀a,Av F (σ.set i (some (.ref l))) (δ.set i x) a->Av F σ δ a∨H a=none:=λa z=>(Qoc z).elim .inl λz=>.inr (by rw[z];exact n)
 have kk:∀a o,¬Av F σ δ a->H a=some o->H' a=some o:=λa o m e=>kp.1 a o (λz=>m (ZW z)) e
 refine⟨?_,⟨kk,nA⟩⟩;exact{
  len:=by rw[Zj,Zj];exact r.len
  dom:=r'.dom
  dom0:=r'.dom0
  pt0:=r'.pt0
  kx:=r'.kx
  sl:=λj o y h1 h2=>by
   by_cases z:j=i
   ·subst z;cases set_eq h1;cases set_eq h2;exact hx _ nA λa z=>Qoc z
   ·rw[Yw z] at h1 h2;have h:=r.sl j o y h1 h2;have h':=r'.sl j o y h1 h2;cases y with
    |no=>trivial
    |v d=>obtain⟨v',e,q'⟩:=h;exact⟨v',e,q'.mv kk nA⟩
    |own ds=>obtain⟨l',xs,rfl,e2,q',f⟩:=h;exact⟨l',xs,rfl,kp.1 _ _ (r.own_pot h2 h1) e2,q'.mv kk nA,f⟩
    |pk ds=>
     obtain⟨l',xs,rfl,e2,q',ys,f,f2⟩:=h;refine⟨l',xs,rfl,kp.1 _ _ ?_ e2,q'.mv kk nA,ys,f,f2⟩;rintro⟨j,j1,j2⟩;obtain⟨p,m,e1,_,w⟩:=r.sl j _ _ j1 j2;cases e1;rcases w with w | w
     ·exact f2 w
     ·rw[w] at f;cases f
    |pot=>exact h'
    |scr=>exact h'
  inj:=λj k a ds h1 h2 ⟨h3,h4⟩=>by
   have ne:∀(k:Nat),k≠i->σ[k]? = some (some (.ref l))->(δ[k]? = some .pot∨∃ds,δ[k]? = some (.own ds))->False:=λk _ h3 h4=>by
    obtain⟨xs,e⟩:=r.isl (a:=l) (.inr ⟨k,h3,h4⟩);rw[n] at e;cases e
   by_cases z:j=i
   ·subst z;cases set_eq h2;by_cases z2:k=j
    ·exact z2.symm
    ·rw[Yw z2] at h3 h4;exact(ne k z2 h3 h4).elim
   ·rw[Yw z] at h1 h2;by_cases z2:k=i
    ·subst z2;cases set_eq h3;exact(ne j z h2 (.inr ⟨ds,h1⟩)).elim
    ·rw[Yw z2] at h3 h4;exact r.inj j k a ds h1 h2 ⟨h3,h4⟩ }
theorem Qkt{K:PySem.W.Frag}{F:Fm}{σ:L2.St}{H:Hp}{δ:Sts}(r:Rel K F σ H δ){l:Addr}(n:H l=none):F.H0 l=none:=by
 cases e:F.H0 l with
 |none=>rfl
 |some o=>
  by_cases z:F.pt l
  ·obtain⟨_,m,e'⟩:=r.pt0 l z;rw[n] at e';cases e'
  ·rw[r.kx l o z e] at n;cases n
theorem QgX(h:PS X st (QnC (tX .F X.K E we) (Qex i))):PS X st (tS X.K E (Qro i we)):=by
 refine PS.imp h λD σ H ⟨F,δ,DD,rel,hw,en⟩=>?_
 refine⟨F,δ,_,DD.ex,rel,hw,λd hd v H' rel' kp ⟨vk,fr⟩=>?_,en.ex⟩;obtain⟨ds,rfl⟩:∃ds,d=.list ds:=by cases d<;>first | exact⟨_,rfl⟩ | exact(show False from hd).elim
 obtain⟨l,rfl⟩:∃l,v=.ref l:=by cases vk;exact⟨_,rfl⟩
 obtain⟨xs,e,q⟩:=DA.items vk;have n:=fr l rfl ⟨xs,e⟩;obtain⟨r2,st⟩:=rel.seto (i:=i) (x:=.own ds) rel' kp n λA hA hB=>⟨l,xs,rfl,e,q.mv (λ_ _ _ e=>e) λa z=>.inl (hB a z),Qkt rel n⟩
 exact en.nx.go _ hd _ H' r2 st
theorem Qmg(h:PS X st (QnC (tX .F X.K E we) (Qex i))):PS X st (tS X.K E (QtT i we)):=by
 refine PS.imp h λD σ H ⟨F,δ,DD,rel,hw,en⟩=>?_
 refine⟨F,δ,_,DD.ex,rel,hw,λd hd v H' rel' kp ⟨vk,fr⟩=>?_,en.ex⟩;split at hd
 ·cases vk with
  |@lst l xs ds na e q=>
   have n:=fr l rfl ⟨xs,e⟩;cases q with
   |cons q1 q2=>
    cases q1;cases q2;obtain⟨r2,st⟩:=rel.seto (i:=i) (x:=.pot) rel' kp n λA hA hB=>⟨l,_,rfl,e,.inr (Qkt rel n)⟩
    exact en.nx.go _ hd _ H' r2 st
 ·exact hd.elim
def QwP(we:DE)(wg:DG):DS:=λD δ=>we δ (λd=>wg d δ D.nx) D.ex
theorem Qpr{ix:List Nat}{wg:DG}(h:PS X st (QnC (tX .D X.K E we) (tG ix X.K wg))):PS X st (tS X.K E (QwP we wg)):=by
 refine PS.imp h λD σ H ⟨F,δ,DD,rel,hw,en⟩=>?_
 refine⟨F,δ,_,DD.ex,rel,hw,λd hd v H' rel' kp vk=>?_,en.ex⟩;exact⟨F,δ,d,_,rel',vk,hd,λδ' h' σ' r' st' _ _=>en.nx.go _ h' _ H' r' ((Stp.kp kp).trans st')⟩
def QwF(we:DE):DS:=λD δ=>we δ D.rt D.ex
def QtV(we:DE):DS:=λD δ=>we δ D.rtF D.ex
theorem Qrn{F:Fm}{σ:L2.St}{δ:Sts}{H:Hp}{v:V}{d:PyData}(h:DA (Av F σ δ) H v d):DA F.A0 H v d:=h.mv (λ_ _ _ e=>e) λa z=>.inl (.inl z)
theorem Qpl{e:QL}{pos:Pos}(h:PE X e (tX .D X.K E we)):PS X (.Return (some e) pos) (tS X.K E (QwF we)):=by
 refine PS.imp (QaW h) λD σ H ⟨F,δ,DD,rel,hw,en⟩=>?_
 exact⟨F,δ,_,DD.ex,rel,hw,λd hd v H' rel' kp vk=>en.rt d hd v H' rel'.ke (Qrn vk),en.ex⟩
theorem Qmi{e:QL}{pos:Pos}(h:PE X e (tX .F X.K E we)):PS X (.Return (some e) pos) (tS X.K E (QtV we)):=by
 refine PS.imp (QaW h) λD σ H ⟨F,δ,DD,rel,hw,en⟩=>?_
 exact⟨F,δ,_,DD.ex,rel,hw,λd hd v H' rel' kp vk=>en.rtF d hd v H' rel'.ke (Qrn vk.1) λl e1 e2=>Qkt rel (vk.2 l e1 e2),en.ex⟩
def Qrp(i:Nat):DS:=λD δ=>match δ[i]? with
 |some (.own ds)=>D.rtF (.list ds)
 |some (.v d)=>D.rt d
 |_=>False
theorem Qmh{e:QL}{pos:Pos}(h:PE X e (Qiu i)):PS X (.Return (some e) pos) (tS X.K E (Qrp i)):=by
 refine PS.imp (QaW h) λD σ H ⟨F,δ,DD,rel,hw,en⟩=>?_
 unfold Qrp at hw;split at hw
 ·rename_i ds hd
  obtain⟨x,hx⟩:=rel.lt hd;obtain⟨l,xs,rfl,e,q,f⟩:=rel.sl i _ _ hx hd;refine⟨_,hx,en.rtF _ hw _ H rel.ke (.lst (λz=>?_) e (q.mv (λ_ _ _ e=>e) λa z=>.inl (.inl z))) λl' e1 _=>by cases e1;exact f⟩;obtain⟨ys,e'⟩:=rel.dom0 l z;rw[f] at e';cases e'
 ·rename_i d hd
  obtain⟨x,hx⟩:=rel.lt hd;obtain⟨v,rfl,q⟩:=rel.sl i _ _ hx hd;exact⟨v,hx,en.rt _ hw _ H rel.ke (Qrn q)⟩
 ·exact hw.elim
def dIf(t:DT)(a b:DS):DS:=λD δ=>t δ (λc=>if c=true then a D δ else b D δ) D.ex
theorem QsQ{c:QL}{a b:List ZA}{pos:Pos}{t:DT}{w w':DS}(hc:PT X c (tT X.K E t))(ha:PSs X a (tS X.K E w))(hb:PSs X b (tS X.K E w')):PS X (.If c a b pos) (tS X.K E (dIf t w w')):=by
 refine PS.imp (Ql2 hc ha hb) λD σ H ⟨F,δ,DD,rel,hw,en⟩=>?_
 exact⟨F,δ,_,DD.ex,rel,hw,λb hb H' rel' kp=>QaY hb (λz=>⟨F,δ,DD,rel',z,en.step (Stp.kp kp)⟩) λz=>⟨F,δ,DD,rel',z,en.step (Stp.kp kp)⟩,en.ex⟩
theorem QjW{g:Int->Int->Int}:QrG (ipI g) (ii0 λi j=>.int (g i j)):=λA P H x y d1 d2 R Q ln dm hx hy h k=>by
 cases d1<;>cases d2<;>first | exact h.elim | skip
 rw[hx.int,hy.int];exact⟨_,_,rfl,rfl,k _ h _ H (Same.refl H) (.int _)⟩
theorem PIp.len{op:Qd4}{t:TIp}(h:PIp X op t):PIp X op (λx y H Q=>QbC H->t x y H Q):=λpins s σ H x y v u Q I rx ry q=>h pins s σ H x y v u Q I rx ry (q (Inv.lens I))
theorem Rel.mut{K:PySem.W.Frag}{F:Fm}{σ:L2.St}{H:Hp}{δ:Sts}(r:Rel K F σ H δ){l:Addr}{ds ds':List PyData}{ys:List V}(h:δ[i]? = some (.own ds))(hx:σ[i]? = some (some (.ref l)))(q:DAs (Av F σ δ) H ys ds') :
  Rel K F σ (upd H l (.lst ys)) (δ.set i (.own ds'))/\Stp F σ H δ σ (upd H l (.lst ys)) (δ.set i (.own ds')):=by
 have hl:Av F σ δ l:=.inr ⟨i,hx,.inr ⟨ds,h⟩⟩;obtain⟨l',xs0,e0,el,_,f⟩:=r.sl i _ _ hx h;cases e0;have lt:i < δ.length:=(Qw.mp h).1;have ge:(δ.set i (.own ds'))[i]? = some (.own ds'):=by rw[Yq lt]
 have kk:∀a o,¬Av F σ δ a->H a=some o->upd H l (.lst ys) a=some o:=λa o n e=>by rw[Jb (λz=>n (by rw[z];exact hl))];exact e
 have av:∀a,Av F σ (δ.set i (.own ds')) a->Av F σ δ a:=λa z=>by
  rcases z with z | ⟨j,h1,h2⟩
  ·exact .inl z
  ·by_cases z:j=i
   ·subst z;exact .inr ⟨j,h1,.inr ⟨ds,h⟩⟩
   ·rw[Yw z] at h2;exact .inr ⟨j,h1,h2⟩
 have up:∀{b:Addr}{o:HO},b≠l->H b=some o->upd H l (.lst ys) b=some o:=λn e=>by rw[Jb n];exact e
 refine⟨?_,⟨kk,λa z=>.inl (av a z)⟩⟩;exact{
  len:=by rw[Zj];exact r.len
  dom:=λa ha=>by
   by_cases z:a=l
   ·rw[z];exact⟨_,Jc⟩
   ·obtain⟨xs,e⟩:=r.dom a ha;exact⟨xs,up z e⟩
  dom0:=r.dom0
  pt0:=λp hp=>by
   obtain⟨h1,n,e⟩:=r.pt0 p hp;refine⟨h1,n,up (λz=>?_) e⟩;obtain⟨xs,e'⟩:=r.dom0 p h1;rw[z,f] at e';cases e'
  kx:=λb o n e=>up (λz=>by rw[z,f] at e;cases e) (r.kx b o n e)
  sl:=λj o y h1 h2=>by
   by_cases z:j=i
   ·subst z;rw[ge] at h2;cases h2;rw[hx] at h1;cases h1;exact⟨l,ys,rfl,Jc,q.mv kk λa z=>.inl (av a z),f⟩
   ·rw[Yw z] at h2;have hh:=r.sl j o y h1 h2;cases y with
    |no=>trivial
    |v d=>obtain⟨v',e,q'⟩:=hh;exact⟨v',e,q'.mv kk λa z=>.inl (av a z)⟩
    |own es=>
     obtain⟨l',xs,rfl,e2,q',f'⟩:=hh;exact⟨l',xs,rfl,up (λz2=>z (r.inj j i l' es h2 h1 ⟨by rw[z2];exact hx,.inr ⟨ds,h⟩⟩)) e2,q'.mv kk λa z=>.inl (av a z),f'⟩
    |pk es=>
     obtain⟨l',xs,rfl,e2,q',ys',f',f2⟩:=hh;exact⟨l',xs,rfl,up (λz2=>by rw[z2,f] at f';cases f') e2,q'.mv kk λa z=>.inl (av a z),ys',f',f2⟩
    |pot=>
     obtain⟨p,n,rfl,e2,w⟩:=hh;refine⟨p,n,rfl,up (λz2=>?_) e2,w⟩;subst z2;exact r.own_pot h hx ⟨j,h1,h2⟩
    |scr=>exact hh
  inj:=λj k a es h1 h2 ⟨h3,h4⟩=>by
   have h4':δ[k]? = some .pot∨∃ds,δ[k]? = some (.own ds):=by
    by_cases z:k=i
    ·subst z;exact .inr ⟨ds,h⟩
    ·rw[Yw z] at h4;exact h4
   by_cases z:j=i
   ·subst z;exact r.inj j k a ds h h2 ⟨h3,h4'⟩
   ·rw[Yw z] at h1;exact r.inj j k a es h1 h2 ⟨h3,h4'⟩ }
def dApp(i:Nat)(we:DE):DS:=λD δ=>match δ[i]? with
 |some (.own ds)=>we δ (λd=>ds.length<1000000/\D.nx (δ.set i (.own (ds++[d])))) D.ex
 |_=>False
def Qru(i:Nat)(rD:PyData->PyData->(PyData->Prop)->Prop)(wi we:DE):DS:=λD δ=>match δ[i]? with
 |some (.own ds)=>wi δ (λz=>match z with
  |.int k=>∃j a,ixN ds.length k=some j/\ds[j]? = some a/\we δ (λe=>rD a e λb=>D.nx (δ.set i (.own (ds.set j b)))) D.ex
  |_=>False) D.ex
 |_=>False
theorem Qml{r:TIp}{rD:PyData->PyData->(PyData->Prop)->Prop}(hd:QrG r rD)(h:PS X st (Qsf (Qiu i) (tX .P X.K E wi) (tX .P X.K E we) (Quv X.K) (λx y H Q=>QbC H->r x y H Q) Qso)):PS X st (tS X.K E (Qru i rD wi we)):=by
 refine PS.imp h λD σ H ⟨F,δ,DD,rel,hw,en⟩=>?_
 unfold Qru at hw;split at hw
 ·rename_i ds hds
  obtain⟨x,hx⟩:=rel.lt hds;obtain⟨l,xs,rfl,e,q,f⟩:=rel.sl i _ _ hx hds;have np:=rel.own_pot hds hx;refine⟨.ref l,hx,F,δ,_,DD.ex,rel,hw,λz hz y H1 rel1 kp1 yk=>?_,en.ex⟩;cases z<;>first | exact(show False from hz).elim | skip
  obtain⟨j,a,hj,ha,hn⟩:=hz;have q1:=kp1.das q;obtain⟨va,hva,da⟩:=q1.get j a ha;rw[DP.int yk];refine⟨l,xs,_,va,rfl,rfl,SqL.of (kp1.1 _ _ np e),by unfold atI;rw[q.length,hj];exact hva,F,δ,_,DD.ex,rel1,hn,λb hb u H2 rel2 kp2 uk ln=>?_,en.ex⟩;refine hd (Av F σ δ) (ZD σ δ) H2 va u a b _ _ ln (λa ha=>rel2.isl ha) (.inl (kp2.da da)) uk hb λc hc w H3 s dw=>?_
  have r3:=rel2.same s;have k3:=kp2.trans (Kp.same rel2 s);refine⟨l,xs,_,j,rfl,rfl,k3.1 _ _ np (kp1.1 _ _ np e),by rw[q.length];exact hj,?_⟩;obtain⟨r4,st⟩:=r3.mut hds hx ((k3.das q1).set dw j);exact en.nx.go _ hc _ _ r4 (((Stp.kp kp1).trans (Stp.kp k3)).trans st)
 ·exact hw.elim
@[irreducible] def QrT(items:List PyData)(wg:DG)(wb:DS)(D:Qde)(δ:Sts):Prop:=∃Iv:Nat->Sts->Prop,Iv 0 δ/\(∀(i:Nat) d δ,items[i]? = some d->Iv i δ->wg d δ λδ2=>wb { D with nx:=Iv (i+1),ct:=Iv (i+1),bk:=D.nx } δ2)/\∀δ,Iv items.length δ->D.nx δ
def dFor(wi:DI)(wg:DG)(wb:DS):DS:=λD δ=>wi δ (λitems=>QrT items wg wb D δ) D.ex
theorem Qpq{tg iter:QL}{body:List ZA}{pos:Pos}{ix:List Nat}{wi:DI}{wg:DG}{wb:DS}(hp:PassesOwn (model X.prog X.w) X.A X.env X.xe)(hc:X.calm=true)(hi:PI X tg iter (tI .D X.K E wi))(hg:PG X tg (tG ix X.K wg))(hb:PSs X body (tS X.K E wb))
  (hs:∀x,foldedSetIterable iter X.env x=pure x:=by intro _;rfl):PS X (.For tg iter body [] pos) (tS X.K E (dFor wi wg wb)):=by
 refine PS.imp (QnP hp hc hi hg hb hs) λD σ H ⟨F,δ,DD,rel,hw,en⟩=>?_
 refine⟨F,δ,_,DD.ex,rel,hw,λitems hC J H1 rel1 kp1 ⟨ln,it⟩=>?_,en.ex⟩;unfold QrT at hC;obtain⟨Iv,i0,step,fin⟩:=hC;have en1:=en.step (Stp.kp (F:=F) kp1);refine⟨λi m σ' H'=>m=items.length - i/\i<=items.length/\∃δ',Iv i δ'/\Rel X.K F σ' H' δ'/\Stp F σ H1 δ σ' H' δ',⟨_,rfl,Jx _,δ,i0,rel1,Stp.refl⟩,?_⟩;rintro i m σ' H' ⟨rfl,hi',δ',iv,r',st'⟩;obtain⟨go,stop⟩:=it H' (Av F σ' δ') st'.1 st'.2 λa ha=>r'.isl ha
 by_cases hlt:i<items.length
 ·have hd:items[i]? = some items[i]:=Qm hlt;obtain⟨g1,g2⟩:=go i _ hd;refine .inr ⟨g1,λσ2 H2=>∃δ2,Iv (i+1) δ2/\Rel X.K F σ2 H2 δ2/\Stp F σ H1 δ σ2 H2 δ2,λσ2 H2 ⟨δ2,h2,r2,s2⟩=>⟨_,by omega,rfl,hlt,δ2,h2,r2,s2⟩,λx H3 y=>?_⟩;obtain⟨s3,dx⟩:=g2 x H3 y;have r3:=r'.same s3;have st3:Stp F σ H1 δ σ' H3 δ':=st'.trans (Stp.kp (Kp.same r' s3));refine⟨F,δ',_,_,r3,dx,step i _ δ' hd iv,λδ4 h4 σ4 r4 st4 _ _=>⟨F,δ4,_,r4,h4,?_⟩⟩;have st5:=st3.trans st4;exact⟨⟨λδ6 h6 σ6 H6 r6 s6=>⟨δ6,h6,r6,st5.trans s6⟩⟩,en.rt,en.rtF,(en1.step st5).nx,⟨λδ6 h6 σ6 H6 r6 s6=>⟨δ6,h6,r6,st5.trans s6⟩⟩,en.ex⟩
 ·have e:i=items.length:=by omega
  subst e;exact .inl ⟨stop,(en1.step st').nx.go δ' (fin δ' iv) σ' H' r' Stp.refl⟩
theorem Qgj{lo:Int}{n:Nat}{wg:DG}{wb:DS}{D:Qde}{δ:Sts}(Iv:Nat->Sts->Prop)(h0:Iv 0 δ)
  (hs:∀(i:Nat) δ,i<n->Iv i δ->wg (.int (lo+i)) δ λδ2=>wb { D with nx:=Iv (i+1),ct:=Iv (i+1),bk:=D.nx } δ2)(hd:∀δ,Iv n δ->D.nx δ):QrT (Qiv lo n) wg wb D δ:=by
 unfold QrT;exact⟨Iv,h0,λi d δ hd iv=>by obtain⟨hi,rfl⟩:=Qae hd;exact hs i δ hi iv,λδ iv=>hd δ (by rw[Qf1] at iv;exact iv)⟩
theorem Qby{items:List PyData}{wg:DG}{wb:DS}{D:Qde}{δ:Sts}(Iv:Nat->Sts->Prop)(h0:Iv 0 δ)
  (hs:∀(i:Nat) d δ,items[i]? = some d->Iv i δ->wg d δ λδ2=>wb { D with nx:=Iv (i+1),ct:=Iv (i+1),bk:=D.nx } δ2)(hd:∀δ,Iv items.length δ->D.nx δ):QrT items wg wb D δ:=by
 unfold QrT;exact⟨Iv,h0,hs,hd⟩
def Qn7(C:Addr)(we:DE):DS:=λD δ=>we δ (λ_=>D.ex C) D.ex
theorem QjA{C:Addr}(h:PS X st (Rx.QnA E C (tX .P X.K E we))):PS X st (tS X.K E (Qn7 C we)):=by
 refine PS.imp h λD σ H ⟨F,δ,DD,rel,hw,en⟩=>?_
 exact⟨F,δ,_,DD.ex,rel,hw,λd hd v H' rel' kp vk=>en.ex C hd H' rel'.ke,en.ex⟩
def Qrs(we:DE):DS:=λD δ=>we δ (λ_=>D.nx δ) D.ex
theorem Qmj(h:PS X st (Qse (tX .P X.K E we))):PS X st (tS X.K E (Qrs we)):=by
 refine PS.imp h λD σ H ⟨F,δ,DD,rel,hw,en⟩=>?_
 exact⟨F,δ,_,DD.ex,rel,hw,λd hd v H' rel' kp vk=>en.nx.go δ hd σ H' rel' (Stp.kp kp),en.ex⟩
theorem Qpo{w:DS}(h:PS X.nox st (tS X.K E0 w)):PS X st (tS X.K E λD δ=>w { D with ex:=XF } δ):=by
 refine PS.imp (QsD h) λD σ H ⟨F,δ,DD,rel,hw,en⟩=>?_
 exact⟨F,δ,_,rel,hw,en.nx,en.rt,en.rtF,en.bk,en.ct,Qiw⟩
end
def stD(N:List Str)(args:List Sl):Sts:=args++Qv (N.length - args.length) .no
theorem QdG{α β:Type}{R:α->β->Prop}:∀{xs:List α}{ys:List β},ZQ R xs ys->∀(i:Nat) x y,xs[i]? = some x->ys[i]? = some y->R x y
 |_,_,.nil,i,x,y,h,_=>by simp at h
 |_,_,.cons a b,0,x,y,h,h'=>by simp at h h';subst h h';exact a
 |_,_,.cons a b,i+1,x,y,h,h'=>QdG b i x y (by simpa using h) (by simpa using h')
theorem Qbm{K:PySem.W.Frag}{N:List Str}{A pt:Addr->Prop}{H:Hp}{vs:List V}{args:List Sl}(dm:∀a,A a->∃xs,H a=some (.lst xs))(hp:∀p,pt p->A p/\∃n,H p=some (.lst [.int n]))(q:ZQ (QfI A pt H) vs args):Rel K ⟨H,A,pt⟩ (L2.start N vs) H (stD N args):=by
 have hl:vs.length=args.length:=q.length;have no:∀(i:Nat) x,(stD N args)[i]? = some x->(i<args.length/\args[i]? = some x)∨x=.no:=λi x h=>by
  unfold stD at h;by_cases z:i<args.length
  ·rw[Qan z] at h;exact .inl ⟨z,h⟩
  ·rw[Qaa (by omega),Yk] at h;split at h
   ·exact .inr (Qq h).symm
   ·cases h
 have arg:∀(i:Nat) o x,(L2.start N vs)[i]? = some o->(stD N args)[i]? = some x->x≠.no->∃v,o=some v/\QfI A pt H v x:=λi o x h1 h2 hx=>by
  rcases no i x h2 with⟨z,e⟩ | e
  ·unfold L2.start at h1;rw[Qan (by rw[Qg];omega),Qz] at h1;obtain⟨v,hv,rfl⟩:=Jw.mp h1;exact⟨v,rfl,QdG q i v x hv e⟩
  ·exact absurd e hx
 have av:∀a,Av ⟨H,A,pt⟩ (L2.start N vs) (stD N args) a->A a:=λa z=>by
  rcases z with z | ⟨i,h1,h2⟩
  ·exact z
  ·rcases h2 with h2 | ⟨ds,h2⟩
   ·obtain⟨v,e,p,rfl,hp'⟩:=arg i _ _ h1 h2 (λz=>by cases z);cases e;exact(hp _ hp').1
   ·obtain⟨v,e,hh⟩:=arg i _ _ h1 h2 (λz=>by cases z);exact hh.elim
 exact{
  len:=by unfold L2.start stD;rw[QF,QF,Qg,Zq,Zq,hl]
  dom:=dm
  dom0:=dm
  pt0:=hp
  kx:=λ_ _ _ e=>e
  sl:=λi o x h1 h2=>by
   cases x with
   |no=>trivial
   |v d=>
    obtain⟨v,e,hh⟩:=arg i _ _ h1 h2 (λz=>by cases z);exact⟨v,e,DA.mv hh (λ_ _ _ e=>e) λa z=>.inl (av a z)⟩
   |pot=>
    obtain⟨v,e,p,rfl,hp'⟩:=arg i _ _ h1 h2 (λz=>by cases z);obtain⟨_,n,en⟩:=hp p hp';exact⟨p,n,e,en,.inl hp'⟩
   |own ds=>obtain⟨v,e,hh⟩:=arg i _ _ h1 h2 (λz=>by cases z);exact hh.elim
   |pk ds=>obtain⟨v,e,hh⟩:=arg i _ _ h1 h2 (λz=>by cases z);exact hh.elim
   |scr=>obtain⟨v,e,hh⟩:=arg i _ _ h1 h2 (λz=>by cases z);exact hh.elim
  inj:=λi j a ds h1 h2 _=>by
   obtain⟨v,e,hh⟩:=arg i _ _ h2 h1 (λz=>by cases z);exact hh.elim }
def Qxc:PyData->Bool
 |.list _=>false
 |_=>true
def rtD:Bool->(PyData->Prop)->PyData->Prop
 |true,R,d=>Qxc d=true/\R d
 |false,R,d=>R d
def Qgk(fr:Bool)(R:PyData->Prop)(EX:XP):Qde:=⟨λ_=>R .none,rtD fr R,R,λ_=>False,λ_=>False,EX⟩
theorem Qez{K:PySem.W.Frag}{E Ex:XK}{fr:Bool}{A pt:Addr->Prop}{H:Hp}{R:PyData->Prop}{EX EX':XP}{Q:VK}{σ:L2.St}{δ:Sts}(k:∀d,R d->∀v H',Kq pt H H'->DA A H' v d->(fr=true->FrV H H' v)->Q v H')(o:Out ⟨H,A,pt⟩ E EX') :
  Ends1 K E ⟨H,A,pt⟩ σ H δ (Qgk fr R EX') { nx:=λ_ H'=>Q .non H',rt:=Q } where
 nx:=⟨λδ' hR σ' H' r st=>k _ hR _ H' r.ke .non λ_=>Qrg⟩
 rt:=λd h v H' ke dv=>by
  cases fr with
  |false=>exact k d h v H' ke dv λz=>by cases z
  |true=>
   obtain⟨h1,h2⟩:=h;refine k d h2 v H' ke dv λz l e1 ⟨xs,e2⟩=>?_
   subst e1;cases dv with
   |@tup a ys ds n e q=>rw[e] at e2;cases e2
   |@lst a ys ds n e q=>cases h1
   |@dct a kvs ds n e q=>rw[e] at e2;cases e2
 rtF:=λd h v H' ke dv fr'=>k d h v H' ke dv λ_=>fr'
 bk:=⟨λ_ h=>h.elim⟩
 ct:=⟨λ_ h=>h.elim⟩
 ex:=o
section
variable{P:QD}{w:Je}{K:PySem.W.Frag}{mg:Str->Option Value}{base:JM}
theorem okD{x qual:Str}{st:ZA}{f:Addr}{fd:Qy}{N ps:List Str}{k:Nat}{fD:DF}(fr:Bool)(F:Fun K x qual st f fd)(S:Jg N ps (Qk st))(len:∀args R EX,fD args R EX->args.length=ps.length)
  (hbody:∀(cdv:Value)(A:Q5)(outer:List Env)(s:Shared)(H:Hp)(E:XK),Room k (A.deeper (envOfC qual (Qk st) s.heap.objs.size f cdv)) ->
   ∃wd,PSs (cxOf CX0 P w K mg base N qual (Qk st) f cdv A outer s H E).nox (Jd st) (tS K E0 wd)/\∀args R EX,fD args R EX->wd (Qgk fr R XF) (stD N args)):FnOk P w K mg base CX0 (k+1) f fd ps (JF fr fD):=by
 refine F.ok S (λvs H Q E h=>?_) λcdv A outer s H vs Q E hr h=>?_
 ·obtain⟨A,pt,args,R,EX,_,_,q,h,_⟩:=h;rw[q.length];exact len _ _ _ h
 ·obtain⟨wd,hp,hw⟩:=hbody cdv A outer s H E hr;obtain⟨A',pt,args,R,EX,dm,hpt,q,h,k,_⟩:=h;exact⟨_,hp,⟨H,A',pt⟩,_,_,Qbm dm hpt q,hw args R EX h,Qez (Ex:=E) (EX:=EX) k Qiw⟩
theorem Qxb{x qual:Str}{st:ZA}{f:Addr}{fd:Qy}{N ps:List Str}{k:Nat}{fD:DF}(fr:Bool)(F:Fun K x qual st f fd)(S:Jg N ps (Qk st))(len:∀args R EX,fD args R EX->args.length=ps.length)
  (hbody:∀(cdv:Value)(A:Q5)(outer:List Env)(s:Shared)(H:Hp)(E:XK),Room k (A.deeper (envOfC qual (Qk st) s.heap.objs.size f cdv)) ->
   ∃wd,PSs (cxOf (Rx.CXE P w) P w K mg base N qual (Qk st) f cdv A outer s H E) (Jd st) (tS K E wd)/\∀args R EX,fD args R EX->wd (Qgk fr R EX) (stD N args)):FnOk P w K mg base (Rx.CXE P w) (k+1) f fd ps (JF fr fD):=by
 refine Rx.okE F S (λvs H Q E h=>?_) λcdv A outer s H vs Q E hr h=>?_
 ·obtain⟨A,pt,args,R,EX,_,_,q,h,_⟩:=h;rw[q.length];exact len _ _ _ h
 ·obtain⟨wd,hp,hw⟩:=hbody cdv A outer s H E hr;obtain⟨A',pt,args,R,EX,dm,hpt,q,h,k,kx⟩:=h;exact⟨_,hp,⟨H,A',pt⟩,_,_,Qbm dm hpt q,hw args R EX h,Qez (Ex:=E) (EX:=EX) k λC hC H' ke=>kx C hC H' ke⟩
end
end Dl
namespace L2
def Qwc(i j:Int):Prop:=0<j/\j<=10^40
theorem Qmz{X:Cx}:OpR X (binaryOp .FloorDiv) (rI Qwc λi j=>.int (i / j)):=opI λi j _ _ _ _ _ hc q=>by
 have h1:(0:Int)<j:=hc.1;have h2:j<=10^40:=hc.2;refine floordiv_int (by omega) (by rw[Int.fdiv_eq_ediv_of_nonneg i (by omega)];exact q) (.inl (PyProof.noPylong_of_log2 ?_));have h3:j.natAbs<2^200:=by
  have:(10:Int)^40<2^200:=by decide
  omega
 have:=(Nat.log2_lt (by omega:j.natAbs≠0)).mpr h3;omega
end L2
namespace Rk
open L2 _root_.Rd
def QgF:Sp:=λvs H Q _=>∃p n f,vs=[.ref p,.int f]/\H p=some (.lst [.int n])/\0<f/\f<=10^40/\∀r m,0<=r->r<f->Q (.int r) (upd H p (.lst [.int m]))
end Rk
namespace Dl
open L2 _root_.Rd Rk
theorem Zh{X:Cx}{E:XK}:Qar CX0 X E:=λ_ _ _ _ _ _ _ h=>h.elim
theorem Room.u60{k:Nat}{A:Q5}(r:Room k A):A.units+60<cLine:=by have:=r.un;omega
theorem Room.i60{k:Nat}{A:Q5}(r:Room k A):A.in1.units+60<cLine:=by
 have:=r.un;show A.units+1+60<cLine;omega
section
variable{X:Cx}{E:XK}{CX:CXT}{k:Nat}{f:Addr}{fd:Qy}{ps:List Str}{x:Str}{p pos:Pos}{e:QL}{es:List QL}{fD:DF}
def QiV:DF:=λargs R _=>∃f,args=[.pot,.v (.int f)]/\0<f/\f<=10^40/\∀r,0<=r->r<f->R (.int r)
theorem Qsb{vs:List V}{H:Hp}{Q:VK}{Ex:XK}(h:JF true QiV vs H Q Ex):QgF vs H Q Ex:=by
 obtain⟨A,pt,args,R,EX,dm,hp,q,⟨f,rfl,f0,f1,hR⟩,k,_⟩:=h;cases q with
 |cons q1 q2=>cases q2 with
  |cons q2 q3=>
   cases q3;obtain⟨p,rfl,pp⟩:=q1;cases q2;obtain⟨_,n,e⟩:=hp p pp;refine⟨p,n,f,rfl,e,f0,f1,λr m r0 r1=>k _ (hR r r0 r1) _ _ ⟨λb o nb eb=>?_,λz hz=>?_⟩ (.int _) λ_=>ZI⟩
   ·rw[Jb (λz=>nb (by rw[z];exact pp))];exact eb
   ·by_cases y:z=p
    ·rw[y];exact⟨m,Jc⟩
    ·obtain⟨_,n',e'⟩:=hp z hz;exact⟨n',by rw[Jb y];exact e'⟩
def Qvx:DF:=λargs R _=>∃c,args=[.v (.int c)]/\∀n,R (.list [.int n])
theorem Qvw{vs:List V}{H:Hp}{Q:VK}{Ex:XK}(h:JF true Qvx vs H Q Ex):Qsh vs H Q Ex:=by
 obtain⟨A,pt,args,R,EX,dm,hp,q,⟨c,rfl,hR⟩,k,_⟩:=h;cases q with
 |cons q1 q2=>
  cases q2;cases q1;refine⟨c,rfl,λp n hn=>k _ (hR n) _ _ ⟨λb o _ eb=>Jk hn b o eb,λz hz=>?_⟩ (.lst (λz=>?_) Jc (.cons (.int _) .nil)) λ_=>YY hn⟩
  ·obtain⟨_,n',e'⟩:=hp z hz;exact⟨n',Jk hn _ _ e'⟩
  ·obtain⟨xs,e⟩:=dm p z;rw[hn] at e;cases e
def isW:PyData->Bool
 |.int _=>true
 |_=>false
def QiL:DF:=λargs R _=>∃d,args=[.v d]/\R (.bool (isW d))
theorem Qi8{K:PySem.W.Frag}{F:Fm}{σ:L2.St}{H:Hp}{δ:Sts}(r:Rel K F σ H δ){a:Addr}{xs:List V}(h:SqL K F.H0 a xs)(n:¬F.pt a):SqL K H a xs:=by
 rcases h with h | h
 ·rcases h with h | ⟨o,h⟩
  ·exact .inl (.inl (r.kx _ _ n h))
  ·exact .inl (.inr ⟨o,r.kx _ _ n h⟩)
 ·exact .inr h
def Qrr(i:Nat):DE:=λδ Q _=>match δ[i]? with
 |some .scr=>∀n:Nat,n<=63->Q (.int n)
 |_=>False
theorem Qpv{i:Nat}{a:QL}(hg:Gl X "len")(hm:X.mg "len" = none)(h:PE X a (Qiu i))(hs:JC a=true:=by rfl):PE X (.Call (.Name "len" p) [a] [] pos) (tX .F X.K E (Qrr i)):=by
 refine PE.imp (Qah QaH hg hm YE (Qcq h Zu hs) (he:=by rw[ZO hs])) λσ H Q ⟨F,δ,R,EX,rel,hw,k,o⟩=>?_
 unfold Qrr at hw;split at hw
 ·rename_i hd
  obtain⟨x,hx⟩:=rel.lt hd;obtain⟨l,ns,rfl,sq,np,n63⟩:=rel.sl i _ _ hx hd;refine⟨_,hx,l,_,rfl,.inl (Qi8 rel sq np),?_⟩;rw[Qg];exact k _ (hw _ n63) _ H rel (Kp.refl rel) ⟨.int _,ZI⟩
 ·exact hw.elim
def Qrt(i:Nat)(wb:DE):DE:=λδ Q EX=>match δ[i]? with
 |some .scr=>wb δ (λd=>match d with
  |.int k=>0<=k/\∀c,Q (.int c)
  |_=>False) EX
 |_=>False
theorem Qpy{i:Nat}{a b:QL}{wb:DE}(G:FnOk X.prog X.w X.K X.mg X.base CX0 k f fd ps (Qbp X.K))(hr:Room k X.A)(hg:Gl X x)(hm:X.mg x=some (.ref f))(hk:PySem.W.keepIn X.K (.ref f)=true)(hb:Binds X.K fd ps [])
  (ha:PE X a (Qiu i))(h:PE X b (tX .P X.K E wb))(h1:JC a=true:=by rfl)(h2:JC b=true:=by rfl)(hdb:(x == ("__debug__" : Str))=false:=by decide) :
  PE X (.Call (.Name x p) [a,b] [] pos) (tX .F X.K E (Qrt i wb)):=by
 refine PE.imp (QcU (E:=E) G hr hg hm hk hb .nil Zh (Qcq ha (Qcq h Zu h2) h1) hdb (ZO h1) (by rw[ZO h2];rfl)) λσ H Q ⟨F,δ,R,EX,rel,hw,k,o⟩=>?_
 unfold Qrt at hw;split at hw
 ·rename_i hd
  obtain⟨x,hx⟩:=rel.lt hd;obtain⟨l,ns,rfl,sq,np,n63⟩:=rel.sl i _ _ hx hd;refine⟨_,hx,F,δ,_,EX,rel,hw,λd hd2 v H' rel' kp vk=>?_,o⟩;cases d<;>first | exact(show False from hd2).elim | skip
  rw[DP.int vk];exact⟨l,ns,_,rfl,Qi8 rel' sq np,ZU n63 (by decide),hd2.1,λc=>k _ (hd2.2 c) _ H' rel' kp ⟨.int _,ZI⟩⟩
 ·exact hw.elim
end
section
variable{P:QD}{w:Je}{K:PySem.W.Frag}{mg:Str->Option Value}{base:JM}
def Qds(K:PySem.W.Frag):Sp:=λvs H Q _=>∃(a:Addr)(ns:List Int),vs=[.ref a]/\SqL K H a (ns.map V.int)/\ns.length<=63/\∀H',Q (.bl true) H'
def QtM:Qde:=⟨λ_=>False,λd=>d=.bool true,λd=>d=.bool true,λ_=>False,λ_=>False,XF⟩
end
end Dl
namespace L2
open PySem.Calls _root_.Rd _root_.Rk Dl
def Qa0(base:JM)(mg:Str->Option Value):Prop:=∃bm ob,mg "__builtins__" = some (.ref bm)/\bm≠builtinsNs/\base.get? bm=some ob/\ob.cls=.type "module" /\ ob.dict=some builtinsNs/\ob.data=.plain
def TH(P:Addr)(q:Str)(H:Hp):Prop:=∃t more,H P=some (.tbl (#[.str q t]++more))
theorem QiU{q:Str}{t:Tok}{more:Array Value}:Qu7 (#[.str q t]++more)=q:=by
 unfold Qu7;rw[QbL];rfl
section
variable{X:Cx}{pins:List (Addr×Obj)}{σ:St}{H:Hp}{s:Shared}
theorem Inv.th{P:Addr}{q:Str}(I:Inv X pins σ H s)(h:TH P q X.H₀):TH P q H:=by
 obtain⟨t,more,e⟩:=h;obtain⟨m2,e2⟩:=I.base.tbls P _ e;exact⟨t,more++m2,by rw[e2,Qlh]⟩
def Qtt(X:Cx)(R:Qhp->Shared->Prop)(env:Env)(pn bn:Str)(s:Shared)(H:Hp):Cx where
 prog:=X.prog
 w:=X.w
 K:=X.K
 mg:=X.mg
 base:=X.base
 A:=X.A.in1.deeper env
 N:=[pn,bn]
 s₀:=s
 H₀:=H
 env:=env
 outer:=X.stack
 stack:=env::X.stack
 ex:=[]
 fn:=λx=>x != bn
 calm:=true
 pn:=[]
 xe:=λe s'=>wpAny (model X.prog X.w) (X.A.in1.deeper env) (leaving env e) (λ_ s''=>R (.error e) s'') (λe'' s''=>R (.error e'') s'') s'
theorem Qkf{R:Qhp->Shared->Prop}{qual pn bn:Str}{lsc:ZK}{f cb:Addr}{cdv:Value}{h₁:JM}{tk:Tok}{u:Value}{x bv:V}{ib:Nat}
  (I:Inv X pins σ H s)(hc:X.calm=true)(rx:RelV x u)(hib:X.N[ib]? = some bn)(hσ:σ[ib]? = some (some bv))(hkb:X.env.scope.names.lookup bn=some .cell)(hcb:X.env.cells.lookup bn=some cb)
  (sk:lsc.kind=.function)(hcell:∀y∈lsc.names,y.2≠.cell)(hpn:lsc.names.lookup pn=some .local)(hbn:lsc.names.lookup bn=some .free)(hfr:∀y,lsc.names.lookup y=some .free->y=bn)
  (hns:h₁.Ns s.heap.objs.size (λy=>[(pn,u)].reverse.lookup y))(hk₁:∀b o,s.heap.get? b=some o->h₁.get? b=some o) :
  Inv (Qtt X R (newEnv lsc s.heap.objs.size mainGlobals [(bn,cb)] (qual ++ ".<locals>.") (some f) cdv none builtinsNs) pn bn s H) [] [some x,some bv] H { s with heap:=h₁,toks:=tk }:=by
 have cb1:∀y c,([(bn,cb)]:List (Str×Addr)).lookup y=some c->y=bn/\c=cb:=λy c e=>by
  rw[QV] at e;split at e
  ·rename_i q
   exact⟨beq_iff_eq.mp q,(Qq e).symm⟩
  ·cases e
 have cb0:([(bn,cb)]:List (Str×Addr)).lookup bn=some cb:=by rw[QV,beq_self_eq_true]
 refine⟨⟨I.ok.mod,sk,rfl,rfl,Ql _,λy z c h1 h2=>?_,λy hy=>?_,λy c hy h=>?_,λ_=>I.ok.hd hc,Qhv I.env0.in1.frames,.inr ⟨rfl,rfl⟩,λb z=>absurd (show b∈([]:List Addr) from z) (by simp),I.bs,QQ I.ok.bsz I.sz,λb _ _ z=>absurd (show b∈([]:List Addr) from z) (by simp),λb z=>absurd (show b∈([]:List Addr) from z) (by simp),I.stack,I.stkFree⟩,
  rfl,I.bare,Un.kept hk₁,⟨_,hns,λi y v h1 h2 h3=>?_⟩,λy c h=>?_,I.hok.fresh (Ql _),λy c h=>?_,λp hp=>absurd (show p∈([]:List (Addr×Obj)) from hp) (by simp),I.hok.kept hk₁,rfl⟩
 ·exact(cb1 y c h1).1.trans (cb1 z c h2).1.symm
 ·have hy:lsc.names.lookup y=some .cell∨lsc.names.lookup y=some .free:=hy;rcases hy with hy | hy
  ·exact absurd rfl (hcell _ (PySem.mem_of_lookup hy))
  ·rw[hfr y hy];exact⟨cb,cb0⟩
 ·have hy:(y != bn)=true:=hy;rw[(cb1 y c h).1] at hy;simp at hy
 ·match i,h1,h2 with
  |0,h1,h2=>
   have e1:y=pn:=(Qq h1).symm;have e2:v=x:=(Qq (Qq h2)).symm;subst e1;subst e2;exact⟨u,rx,.inl ⟨hpn,by show([(y,u)]:List (Str×Value)).lookup y=some u;rw[QV,beq_self_eq_true]⟩⟩
  |1,h1,h2=>
   have e1:y=bn:=(Qq h1).symm;have e2:v=bv:=(Qq (Qq h2)).symm;subst e1;subst e2;obtain⟨m,hn,hl⟩:=I.loc;obtain⟨ub,rb,l⟩:=hl ib y v hib hσ (.inr (.inl hkb));refine⟨ub,rb,.inr ⟨.inr hbn,cb,cb0,?_⟩⟩;rcases l with⟨k1,_⟩ | ⟨_,c,e,o,ho,hd⟩
   ·have k1:X.env.scope.names.lookup y=some .local:=k1;rw[hkb] at k1;cases k1
   ·rw[hcb] at e;cases e;exact⟨o,hk₁ _ _ ho,hd⟩
  |i+2,h1,h2=>cases h1
 ·rw[(cb1 y c h).2];obtain⟨v,o,ho,hd⟩:=I.cell bn cb hcb;exact⟨v,o,hk₁ _ _ ho,hd⟩
 ·have:=(cb1 y c h).2;rw[this];exact I.freeC bn cb hcb
theorem Qm2{S f c' cb:Addr}{oc:Obj}{vs:Array Value}{t:Tok}{xs:List V}{val:Nat->Int}{H0:Hp}{name qual pn bn wn:Str}{params:Qd9}{lsc:ZK}{pm ctv:Value}{bv:V}{ib k:Nat}{fw:Addr}{fdw:Qy}{sp:Sp}{E0:XK}{p1 p2 p3 pos:Pos}{ps2:List Str}
  (F:FnOk X.prog X.w X.K X.mg X.base CX0 k fw fdw ps2 sp)(hr:Room (k+2) X.A)(hb:Binds X.K fdw ps2 [])(hmw:X.mg wn=some (.ref fw))(hkw:PySem.W.keepIn X.K (.ref fw)=true)(hc:X.calm=true)
  (hf:H0 f=some (.frz (PySem.W.kla_obj name qual params (.Call (.Name wn p1) [.Name bn p2,.Name pn p3] [] pos) lsc [(bn,cb)] pm c' ctv) (.own f)))
  (hcd:H0 c'=some (.frz oc (.own c')))(hd:oc.data=.fields vs)(hv:vs[1]? = some (.str qual t))(hS:H0 S=none)
  (hib:X.N[ib]? = some bn)(hσ:σ[ib]? = some (some bv))(hkb:X.env.scope.names.lookup bn=some .cell)(hcb:X.env.cells.lookup bn=some cb)
  (sk:lsc.kind=.function)(sco:lsc.isCoroutine=false)(sge:lsc.isGenerator=false)(hcell:∀y∈lsc.names,y.2≠.cell)(hpn:lsc.names.lookup pn=some .local)(hbn:lsc.names.lookup bn=some .free)(hfr:∀y,lsc.names.lookup y=some .free->y=bn)
  (hwn:lsc.names.lookup wn=some .globalImplicit)(dp:(pn == ("__debug__" : Str))=false)(db:(bn == ("__debug__" : Str))=false)(dw:(wn == ("__debug__" : Str))=false)(dp2:(pn == ("__classdict__" : Str))=false)(db2:(bn == ("__classdict__" : Str))=false)
  (hbind:∀u:Value,bindArgs (PySem.W.kla_fn name qual params (.Call (.Name wn p1) [.Name bn p2,.Name pn p3] [] pos) lsc [(bn,cb)] pm (.ref c') ctv) ⟨[u],[]⟩=pure [(pn,u)])
  (h:∀(i:Nat)(x:V),xs[i]? = some x->∀H,Yt S H0 H->sp [bv,x] H (λv H'=>v=.int (val i)/\Same H H') E0):QeK X σ S f xs val H0:=by
 intro i x u pins' s H E hx rx I kb;have nS:∀b o,H0 b=some o->b≠S:=λb o e z=>by rw[z,hS] at e;cases e
 have gf:=(I.hok f _ (kb f _ (nS _ _ hf) hf)).1;have gc:=(I.hok c' _ (kb c' _ (nS _ _ hcd) hcd)).1;refine Qa3 (YT (R:=CR CX0 X.stack X.prog X.w H s (λv H'=>v=.int (val i)/\Same H H') E0) ?_ λr s' hq=>?_)
 ·refine PySem.W.kla_callFunE hr.in1.depth gf rfl sco sge rfl ⟨c',oc,vs,t,rfl,gc,hd,hv⟩ ?_
  rw[hbind u];refine Qj (Yf hcell (λy hy=>by rw[QY.mp hy];exact hpn) (λh₁ hns hsb=>⟨(I.mod.nolimit.keeps I.bk).fresh _ hsb,?_⟩) sk);have hk₁:∀b o,s.heap.get? b=some o->h₁.get? b=some o:=λb o e=>hsb.extBut b o (Qs (Qi e)) (Qd _ e)
  refine PySem.W.kla_codeExpr ?_
  have I':=Qkf (R:=CR CX0 X.stack X.prog X.w H s (λv H'=>v=.int (val i)/\Same H H') E0) (qual:=qual) (f:=f) (cdv:=.ref c') (tk:=s.toks+1) I hc rx hib hσ hkb hcb sk hcell hpn hbn hfr hns hk₁;refine wpAny_mono ((QcU (X:=Qtt X (CR CX0 X.stack X.prog X.w H s (λv H'=>v=.int (val i)/\Same H H') E0) (newEnv lsc s.heap.objs.size mainGlobals [(bn,cb)] (qual ++ ".<locals>.") (some f) (.ref c') none builtinsNs) pn bn s H) (pos:=pos) (p:=p1) (x:=wn) (E:=E0) F (hr.in1.deeper _) hwn hmw hkw hb .nil Zh
   (Ys (e:=.Name bn p2) (QgV (i:=1) rfl (.inr (.inr hbn)) db db2) (Ys (e:=.Name pn p3) (QgV (i:=0) rfl (.inl hpn) dp dp2) Zu)) dw) [] _ [some x,some bv] H _ I' ⟨bv,rfl,x,rfl,h i x hx H kb⟩) (λv s' hq=>?_) λe s' y=>y
  obtain⟨v',H',J,rv,q⟩:=hq;exact⟨v',H',J.os,J.bare,J.base,J.hok,rv,q⟩
 ·cases r with
  |error e=>exact Jh hq
  |ok fl=>
   cases fl with
   |ret u'=>
    obtain⟨v,H',I',rv,rfl,sm⟩:=I.after hq;obtain⟨t,rfl⟩:∃t,u'=.int (val i) t:=by
     first
     |exact rv
     |(cases rv;exact⟨_,rfl⟩)
    exact⟨t,H',rfl,I',sm⟩
   |next=>exact Jh hq
   |brk=>exact Jh hq
   |cont=>exact Jh hq
end
theorem QeC{pos:Pos}{a b:Int}{c v:Value}(l:List Value)(h:TriplesOk l)(hn:codeAmong pos (l++[rawInt a,rawInt b,c])=some v):codeAmong pos l=some v∨v=c:=by
 fun_induction TriplesOk l with
 |case1=>
  simp only[QeL,codeAmong,rawInt] at hn;split at hn
  ·exact .inr (Qq hn).symm
  ·cases hn
 |case2 a' t b' u x rest ih=>
  simp only[List.cons_append,codeAmong] at hn ⊢;split at hn
  ·rename_i hc;rw[if_pos hc];exact .inl hn
  ·rename_i hc;rw[if_neg hc];exact ih h hn
 |case3 l h1 h2=>exact h.elim
section
variable{X:Cx}{pins:List (Addr×Obj)}{σ:St}{H:Hp}{s:Shared}
theorem Qm3{P c cb:Addr}{q bn:Str}{params:Qd9}{body:QL}{lsc:ZK}{pos:Pos}{E:Value->Shared->Prop}
  (I:Inv X pins σ H s)(hT:TH P q X.H₀)(hq:q=X.env.qual ++ "<lambda>")(hC:PySem.W.CodeHd X.base c P)(hcode:X.env.code=.ref c)(hB:Qa0 X.base X.mg)
  (hcl:closureFor lsc X.env=pure [(bn,cb)])(hdef:defaultsOf params X.env=([],[])) :
  wpAny (model X.prog X.w) X.A (eval (.Lambda params body lsc pos) X.env) (λv s'=>∃f c' oc vs t pm ctv H',v=.ref f/\Inv X pins σ H' s'/\Same H H'/\H' f=some (.frz (PySem.W.kla_obj "<lambda>" q params body lsc [(bn,cb)] pm c' ctv) (.own f)) /\
   H' c'=some (.frz oc (.own c'))/\oc.data=.fields vs/\vs[1]? = some (.str q t)) E s:=by
 obtain⟨t0,more,eP⟩:=I.th hT;obtain⟨qs,gP,tri,cods⟩:=I.hok P _ eP;simp only[QiU] at cods;have hgs:s.heap.Ns mainGlobals X.mg:=I.mod.glob.keeps I.bk;have neB:∀b o,X.base.get? b=some o->b≠P:=λb o e z=>by
  rw[z] at e;have:=(I.bs P o e).2;rw[eP] at this;cases this
 have hgP:mainGlobals≠P:=by
  obtain⟨o,es,ep,e,_⟩:=I.mod.glob;exact neB _ _ e
 obtain⟨bm,ob,b1,b2,b3,b4,b5,b6⟩:=hB;have hbG:bm≠mainGlobals:=λz=>by
  obtain⟨o,es,ep,e,hd,_⟩:=I.mod.glob;rw[z,e] at b3;cases b3;rw[hd] at b6;cases b6
 have bat:s.heap.BuiltinsAt X.mg P:=⟨bm,ob,b1,b2,hbG,neB _ _ b3,I.bk _ _ b3,b4,b5,b6⟩;refine PySem.W.kla_eval hdef ?_
 rw[<- hq];cases hca:codeAmong pos qs.toList with
 |none=>
  refine PySem.W.kla_makeFunction (mg:=X.mg) hcl I.ok.glob hgs hcode (hC.keeps I.bk) gP tri hca hgP bat λc' ctv h' tk hx hge hlt hrec htb=>?_
  obtain⟨c₂,oc,vs,t,e2,hoc,hd,hv⟩:=hrec;cases e2;have hc0:H c'=none:=I.hok.fresh hge;have hf0:H h'.objs.size=none:=I.hok.fresh (QQ hge (Ze hlt));have ncf:c'≠h'.objs.size:=Qs hlt;generalize ho:(PySem.W.kla_obj "<lambda>" q params body lsc [(bn,cb)] ((X.mg "__name__").getD .none) c' ctv)=fo;generalize hH:upd (upd H c' (.frz oc (.own c'))) h'.objs.size (.frz fo (.own h'.objs.size))=H2;have H2s:∀b u,H b=some u->H2 b=some u:=λb u e=>by
   rw[<- hH,Jb (JK e hf0),Jb (JK e hc0)];exact e
  have H2f:H2 h'.objs.size=some (.frz fo (.own h'.objs.size)):=by rw[<- hH];exact Jc
  have H2c:H2 c'=some (.frz oc (.own c')):=by rw[<- hH,Jb ncf];exact Jc
  have H2n:∀b,b≠h'.objs.size->b≠c'->H2 b=H b:=λb h1 h2=>by rw[<- hH,Jb h1,Jb h2]
  have kp:∀b o,b≠P->s.heap.get? b=some o->(h'.push fo).get? b=some o:=λb o hb e=>Qd _ (hx b o hb e)
  have nP:∀b,H b=none->b≠P:=λb n z=>by rw[z,eP] at n;cases n
  have gP':(h'.push fo).get? P=some _:=Qd _ htb;have old:∀b o,s.heap.get? b=some o->b≠h'.objs.size/\b≠c':=λb o e=>by
   have:=Qi e;exact⟨Qs (Qt this (QQ hge (Ze hlt))),Qs (Qt this hge)⟩
  refine⟨h'.objs.size,c',oc,vs,t,_,ctv,H2,rfl,?_,H2s,by rw[ho];exact H2f,H2c,hd,hv⟩;refine I.un (h':=h'.push fo) (t':=tk) ⟨λb o e n _ _=>kp b o (nP b n) e,λb o e n _ _=>⟨o.slots,kp b o (nP b n) e⟩,λb o e n _=>?_,λb o e _=>?_,λb xs e=>H2s _ _ e,λb o u e=>H2s _ _ e,λb ps e=>⟨#[],by rw[H2s _ _ e];simp⟩⟩ λb u e=>?_
  ·obtain⟨o1,o2⟩:=old b o e;rw[H2n b o1 o2];exact n
  ·by_cases z:b=P
   ·rw[z];exact⟨_,gP'⟩
   ·exact⟨o,kp b o z e⟩
  ·by_cases z1:b=h'.objs.size
   ·rw[z1] at e ⊢;rw[H2f] at e;cases e;have fr:fo.isFreed=false:=by rw[<- ho];rfl
    exact⟨Qp _ fr,_,Qp _ fr⟩
   ·by_cases z2:b=c'
    ·rw[z2] at e ⊢;rw[H2c] at e;cases e;exact⟨Qd _ hoc,_,Qd _ hoc⟩
    ·rw[H2n b z1 z2] at e;by_cases z3:b=P
     ·rw[z3] at e ⊢;rw[eP] at e;cases e;refine⟨_,gP',?_,λpos' v hv'=>?_⟩
      ·rw[QbL];exact TriplesOk_snoc _ _ _ _ tri
      ·rw[QbL] at hv';rw[QiU];rcases QeC _ tri hv' with y | y
       ·obtain⟨c3,oc3,vs3,t3,e1,e2,e3,e4⟩:=cods pos' v y;exact⟨c3,oc3,vs3,t3,e1,H2s _ _ e2,e3,e4⟩
       ·exact⟨c',oc,vs,t,y,H2c,hd,hv⟩
     ·refine(I.hok b u e).stay (λc v hc q=>kp c v ?_ q) (λc r=>H2s _ _ r) (λc xs r=>H2s _ _ r) λc z u r=>H2s _ _ r
      rcases hc with rfl | hc
      ·exact z3
      ·exact λy=>by rw[y,eP] at hc;cases hc
 |some cv=>
  obtain⟨c',oc,vs,t,rfl,Hc,hd,hv⟩:=cods pos cv hca;refine PySem.W.kla_makeFunctionHit (mg:=X.mg) hcl I.ok.glob hgs hcode (hC.keeps I.bk) gP tri hca bat λctv h' tk hx hsz=>?_
  have hf0:H h'.objs.size=none:=I.hok.fresh hsz;refine⟨h'.objs.size,c',oc,vs,t,((X.mg "__name__").getD .none),ctv,upd H h'.objs.size (.frz (PySem.W.kla_obj "<lambda>" q params body lsc [(bn,cb)] ((X.mg "__name__").getD .none) c' ctv) (.own h'.objs.size)),rfl,?_,λb u e=>by rw[Jb (JK e hf0)];exact e,Jc,by rw[Jb (JK Hc hf0)];exact Hc,hd,hv⟩;exact I.laid (h':=h'.push _) (t':=tk) (λb u e=>Qd _ (hx b u e)) hsz ⟨Qp _ rfl,_,Qp _ rfl⟩
end
section
variable{X:Cx}{k:Nat}{fw:Addr}{fdw:Qy}{ps2:List Str}{sp:Sp}{E0:XK}
def Qox(sp:Sp)(E0:XK)(ib:Nat)(t:TE):TE:=λσ H Q=>t σ H λv H1=>∃(l:Addr)(xs:List V)(val:Nat->Int)(bv:V),v=.ref l/\H1 l=some (.lst xs)/\σ[ib]? = some (some bv) /\
 (∀(S:Addr)(i:Nat)(x:V),H1 S=none->xs[i]? = some x->∀H,Yt S H1 H->sp [bv,x] H (λv H'=>v=.int (val i)/\Same H H') E0)/\(xs=[]->∀H',Same H1 H'->Q .non H')/\∀x,xs[bstI val (xs.length - 1)]? = some x->∀H',Same H1 H'->Q x H'
theorem Qjx{e:QL}{t:TE}{P c cb:Addr}{q bn pn wn:Str}{params:Qd9}{lsc:ZK}{ib:Nat}{p lp kp cp kp2 pos p1 p2 p3 bp:Pos}
  (F:FnOk X.prog X.w X.K X.mg X.base CX0 k fw fdw ps2 sp)(hr:Room (k+2) X.A)(hg:Gl X "min")(hm:X.mg "min" = none)(hb:Binds X.K fdw ps2 [])(hmw:X.mg wn=some (.ref fw))(hkw:PySem.W.keepIn X.K (.ref fw)=true)(hc:X.calm=true)
  (hT:TH P q X.H₀)(hq:q=X.env.qual ++ "<lambda>")(hC:PySem.W.CodeHd X.base c P)(hcode:X.env.code=.ref c)(hB:Qa0 X.base X.mg)(hcl:closureFor lsc X.env=pure [(bn,cb)])(hdef:defaultsOf params X.env=([],[]))
  (hib:X.N[ib]? = some bn)(hkb:X.env.scope.names.lookup bn=some .cell)(hcb:X.env.cells.lookup bn=some cb)
  (sk:lsc.kind=.function)(sco:lsc.isCoroutine=false)(sge:lsc.isGenerator=false)(hcell:∀y∈lsc.names,y.2≠.cell)(hpn:lsc.names.lookup pn=some .local)(hbn:lsc.names.lookup bn=some .free)(hfr:∀y,lsc.names.lookup y=some .free->y=bn)
  (hwn:lsc.names.lookup wn=some .globalImplicit)(dp:(pn == ("__debug__" : Str))=false)(db:(bn == ("__debug__" : Str))=false)(dw:(wn == ("__debug__" : Str))=false)(dp2:(pn == ("__classdict__" : Str))=false)(db2:(bn == ("__classdict__" : Str))=false)
  (hbind:∀(pm ctv:Value)(c':Addr)(u:Value),bindArgs (PySem.W.kla_fn "<lambda>" q params (.Call (.Name wn p1) [.Name bn p2,.Name pn p3] [] bp) lsc [(bn,cb)] pm (.ref c') ctv) ⟨[u],[]⟩=pure [(pn,u)])
  (h:PE X e t)(he:starEach [e] X.env=(false,eval e X.env)::starEach [] X.env) :
  PE X (.Call (.Name "min" p) [e] [⟨some "key",.Lambda params (.Call (.Name wn p1) [.Name bn p2,.Name pn p3] [] bp) lsc lp,kp⟩,⟨some "default",.Constant .none 0 cp,kp2⟩] pos) (Qox sp E0 ib t):=by
 intro pins s σ H Q I hh;refine Z3 (Qbx I hg hm (by rfl) ?_ (by decide) (by decide));have hh:QfW t Qsd σ H (λvs H1=>match vs with
   |[v]=>∃(l:Addr)(xs:List V)(val:Nat->Int)(bv:V),v=.ref l/\H1 l=some (.lst xs)/\σ[ib]? = some (some bv) /\
    (∀(S:Addr)(i:Nat)(x:V),H1 S=none->xs[i]? = some x->∀H,Yt S H1 H->sp [bv,x] H (λv H'=>v=.int (val i)/\Same H H') E0)/\(xs=[]->∀H',Same H1 H'->Q .non H')/\∀x,xs[bstI val (xs.length - 1)]? = some x->∀H',Same H1 H'->Q x H'
   |_=>False):=hh
 refine PyProof.Rows.callWith_kw (thn ((Ys h Zu he) pos pins s σ H _ I hh) λus s1 ⟨vs,H1,I1,r1,q1⟩=>?_) ?_ ?_ ?_ ?_
 ·dsimp only at q1
  split at q1
  ·obtain⟨l,xs,val,bv,rfl,hl,hσ,hk,hN,hQ⟩:=q1;obtain⟨u,rfl,ru⟩:=vals1 r1;cases ru;refine kws_cons (wpAny_mono (Qm3 I1 hT hq hC hcode hB hcl hdef) (λv s2 hv=>?_) λ_ _ y=>y);obtain⟨f,c',oc,vs,tt,pm,ctv,H2,rfl,I2,sm,hf,hcd,hd,hvs⟩:=hv;refine kws_cons (Constant_none (kws_nil ?_));show wpAny (model X.prog X.w) X.A (call (.builtin "min") [.ref l] [("key",.ref f),("default",.none)]) _ _ s2;have nS:∀S,H2 S=none->H1 S=none:=λS hS=>by
    cases y:H1 S with
    |none=>rfl
    |some o=>rw[sm _ _ y] at hS;cases hS
   refine Qfu (dv:=some (.non,.none)) hc I2 (sm _ _ hl) (λp hp=>by cases hp;rfl) (λS hS=>Qm2 F hr hb hmw hkw hc hf hcd hd hvs hS hib hσ hkb hcb sk sco sge hcell hpn hbn hfr hwn dp db dw dp2 db2 (hbind pm ctv c') λi x hx H3 kb=>hk S i x (nS S hS) hx H3 λb o hb e=>kb b o hb (sm _ _ e)) (λe=>⟨_,rfl,λH' s2=>hN e H' (sm.trans s2)⟩) λx hx H' s2=>hQ x hx H' (sm.trans s2)
  ·exact q1.elim
 ·rw[he];rfl
 ·rw[he];rfl
 ·rfl
 ·rfl
end
end L2
namespace Dl
open L2 _root_.Rd Rk
theorem QdV{α:Type}{p:α->Prop}:∀x∈([]:List α),p x:=λ_ h=>nomatch h
theorem Jt{α:Type}{p:α->Prop}{a:α}{l:List α}(h:p a)(t:∀x∈l,p x):∀x∈a::l,p x:=λx hx=>by
 rcases Qx.mp hx with z | z
 ·rw[z];exact h
 ·exact t x z
theorem Qt7{b c:Bool}{R:PyData->Prop}(h:R (.bool (b&&c))):if b=true then R (.bool c) else R (.bool false):=by
 cases b
 ·exact QvT h
 ·exact QvR h
theorem Qdd{b c:Bool}{R:PyData->Prop}{Pk:Prop}(h:R (.bool (b&&c)))(k:b=true->R (.bool c)->Pk):if b=true then Pk else R (.bool false):=by
 cases b
 ·exact QvT h
 ·exact QvR (k rfl h)
theorem ifF{c:Bool}{A B:Prop}(h:c=false)(k:B):if c=true then A else B:=by subst h;exact k
theorem ifT{c:Bool}{A B:Prop}(h:c=true)(k:A):if c=true then A else B:=by subst h;exact k
theorem ifC{c:Bool}{A B:Prop}(t:c=true->A)(f:c=false->B):if c=true then A else B:=by
 cases c
 ·exact f rfl
 ·exact t rfl
theorem all_map{α:Type}(l:List α)(g:α->Bool):(l.map g).all id=l.all g:=by
 rw[List.all_map];rfl
theorem Qcc{ds:List PyData}{Q:PyData->Prop}{g:PyData->Bool}{items:List PyData}(h:ds=[.list (items.map λd=>.bool (g d))])(q:Q (.bool (items.all g))):QuE ds Q:=by
 subst h;unfold QuE;refine⟨items.map g,?_,by rw[all_map];exact q⟩;rw[show items.map (λd=>Yo (g d))=(items.map g).map Yo by rw[Jj];rfl,QfB]
theorem Qp2{ds:List PyData}{Q:PyData->Prop}(ns:List Int)(h:ds=[.list (ns.map Qe)])(h0:0<ns.length)(q:∀m,m∈ns->(∀y∈ns,m<=y)->Q (.int m)):QmU ds Q:=by
 subst h;unfold QmU;exact⟨ns,ints_map ns,h0,q⟩
end Dl
namespace L2
section
variable{X:Cx}
end
end L2
namespace Dl
open L2 _root_.Rd Rk
section
variable{X:Cx}{E:XK}
variable{e:QL}{w:DE}{p p2 pos pos2:Pos}
end
theorem Qt6{ds:List PyData}{i:Int}(h0:0<=i)(h1:i<ds.length):∃d,d∈ds/\atI ds i=some d:=by
 obtain⟨j,rfl⟩:∃j:Nat,i=j:=⟨i.toNat,by omega⟩
 have hj:j<ds.length:=by omega
 exact⟨ds[j],Qdp hj,Zw (Qm hj)⟩
theorem Qkg{ds:List PyData}{i:Int}{Q:PyData->Prop}(h0:0<=i)(h1:i<ds.length)(q:∀d∈ds,Q d):∃d,atI ds i=some d/\Q d:=by
 obtain⟨d,hd,e⟩:=Qt6 h0 h1;exact⟨d,e,q d hd⟩
theorem Qc7(xs:List PyData)(lo hi:Option Int):(cutD xs lo hi).length<=xs.length:=by
 unfold cutD;rw[YG,Qdo];omega
theorem Qhf{xs:List PyData}{lo hi:Option Int}{d:PyData}(h:d∈cutD xs lo hi):d∈xs:=List.mem_of_mem_drop (List.mem_of_mem_take h)
structure QE (m:Md) (X:Cx) (E:XK) (e:QL) (w:DE):Prop where h:PE X e (tX m X.K E w)
structure QT (X:Cx) (E:XK) (e:QL) (w:DT):Prop where h:PT X e (tT X.K E w)
structure QW (X:Cx) (E:XK) (e:QL) (w:DT):Prop where h:PW X e (tT X.K E w)
structure QTs (X:Cx) (E:XK) (es:List QL) (w:DT):Prop where h:PTs X es (tT X.K E w)
structure QA (n:Nat) (m:Md) (X:Cx) (E:XK) (es:List QL) (w:DAr):Prop where h:PA X es (tAr n m X.K E w)
structure QAs (X:Cx) (E:XK) (es:List QL) (w:DSl):Prop where h:PA X es (tAs X.K E w)
structure QO (X:Cx) (E:XK) (o:Option QL) (w:DO):Prop where h:PO X o (tO X.K E w)
structure QG (ix:List Nat) (X:Cx) (tg:QL) (w:DG):Prop where h:PG X tg (tG ix X.K w)
structure QI (m:Md) (X:Cx) (E:XK) (tg it:QL) (w:DI):Prop where h:PI X tg it (tI m X.K E w)
structure QS (X:Cx) (E:XK) (st:ZA) (w:DS):Prop where h:PS X st (tS X.K E w)
structure QSs (X:Cx) (E:XK) (sts:List ZA) (w:DS):Prop where h:PSs X sts (tS X.K E w)
section
variable{X:Cx}{E:XK}
theorem JP{e:QL}{w:DE}(h:QE .F X E e w):QE .D X E e w:=⟨toD h.h⟩
theorem Jf{e:QL}{w:DE}(h:QE .D X E e w):QE .P X E e w:=⟨toP h.h⟩
theorem QK{e:QL}{w:DE}(h:QE .F X E e w):QE .P X E e w:=⟨QwX h.h⟩
theorem qv(i:Nat){x:Str}{pos:Pos}(hN:X.N[i]? = some x:=by rfl)(hv:Vis X.env.scope x:=by first | exact Q0 rfl | exact Q8 (Q0 rfl) | exact Q8 (Q8 rfl))(hd:(x == ("__debug__" : Str))=false:=by decide)(hcd:(x == ("__classdict__" : Str))=false:=by decide):QE .D X E (.Name x pos) (Qv3 i):=⟨QsR (pv i hN hv hd hcd)⟩
theorem qp(i:Nat){x:Str}{pos:Pos}(hN:X.N[i]? = some x:=by rfl)(hv:Vis X.env.scope x:=by first | exact Q0 rfl | exact Q8 (Q0 rfl) | exact Q8 (Q8 rfl))(hd:(x == ("__debug__" : Str))=false:=by decide)(hcd:(x == ("__classdict__" : Str))=false:=by decide):QE .P X E (.Name x pos) (dPk i):=⟨QvB (pv i hN hv hd hcd)⟩
theorem QR{i:Int}{j pos}:QE .D X E (.Constant (.int i) j pos) (dC (.int i)):=⟨QsZ⟩
theorem Qjs{b:Bool}{j pos}:QE .D X E (.Constant (.bool b) j pos) (dC (.bool b)):=⟨QvF⟩
theorem QoW{j pos}:QE .D X E (.Constant .none j pos) (dC .none):=⟨QsW⟩
theorem Y5{x:Str}{j pos}(h:Yp (.str x)=true:=by decide +kernel):QE .D X E (.Constant (.str x) j pos) (dC (.str x)):=⟨QsT h⟩
theorem QgS{x:Str}(i:Int){u:Value}{pos:Pos}(hg:Gl X x)(hm:X.mg x=some u)(r:RelV (.int i) u)(hd:(x == ("__debug__" : Str))=false:=by decide):QE .D X E (.Name x pos) (dC (.int i)):=⟨Qs3 (Qf8 hg hm r hd) λ_ _=>.int i⟩
theorem ZT{a b:QL}{wa wb:DE}{pos:Pos}{r:R2}{rD:PyData->PyData->(PyData->Prop)->Prop}{op:Qd4}(ho:OpR X (binaryOp op) r)(hd:OpD r rD)(ha:QE .P X E a wa)(hb:QE .P X E b wb):QE .F X E (.BinOp a op b pos) (dOp rD wa wb):=⟨Qs4 ho hd ha.h hb.h⟩
theorem QbW{a b:QL}{wa wb:DE}{pos:Pos}{r:R2}{rD:PyData->PyData->(PyData->Prop)->Prop}{op:Qhu}(ho:OpR X (compareOp op) r)(hd:OpD r rD)(ha:QE .P X E a wa)(hb:QE .P X E b wb)(hm:behindInMarks op b=false):QE .F X E (.Compare a [op] [b] pos) (dOp rD wa wb):=⟨Qs2 ho hd ha.h hb.h hm⟩
theorem Y3{a b:QL}{wa wb:DE}{pos:Pos}{r:R2}{rD:PyData->PyData->(PyData->Prop)->Prop}{op:Qhu}(ho:OpR X (compareOp op) r)(hd:OpD r rD)(ha:QE .P X E a wa)(hb:QE .P X E b wb)(hm:behindInMarks op b=false):QT X E (.Compare a [op] [b] pos) (dTst (dOp rD wa wb)):=⟨Qpk ho hd ha.h hb.h hm⟩
theorem QdF{a b:QL}{wa wb:DE}{pos:Pos}{r:R2}{rD:PyData->PyData->(PyData->Prop)->Prop}(ho:IxR X r)(hd:QrG r rD)(ha:QE .P X E a wa)(hb:QE .P X E b wb)(hs:QeJ b):QE .D X E (.Subscript a b pos) (dOp rD wa wb):=⟨QvD ho hd ha.h hb.h hs⟩
theorem QlU{a:QL}{wa:DE}{pos:Pos}(ha:QE .P X E a wa):QE .F X E (.UnaryOp .USub a pos) (dUn Qwt wa):=⟨QsX ha.h⟩
theorem Qxa{a b c:QL}{wa wb wc:DE}{pos:Pos}{op op':Qhu}{p q:Int->Int->Bool}(ho:OpR X (compareOp op) (rI0 λi j=>.bl (p i j)))(ho':OpR X (compareOp op') (rI0 λi j=>.bl (q i j)))(ha:QE .P X E a wa)(hb:QE .P X E b wb)(hc:QE .P X E c wc)(hm:lastMarks [op,op'] [b,c]=false:=by with_unfolding_all rfl):QE .F X E (.Compare a [op,op'] [b,c] pos) (dCh p q wa wb wc):=⟨QvE ho ho' ha.h hb.h hc.h hm⟩
theorem Qvs{a b c:QL}{wa wb wc:DE}{pos:Pos}{op op':Qhu}{p q:Int->Int->Bool}(ho:OpR X (compareOp op) (rI0 λi j=>.bl (p i j)))(ho':OpR X (compareOp op') (rI0 λi j=>.bl (q i j)))(ha:QE .P X E a wa)(hb:QE .P X E b wb)(hc:QE .P X E c wc)(hm:lastMarks [op,op'] [b,c]=false:=by with_unfolding_all rfl):QT X E (.Compare a [op,op'] [b,c] pos) (dTst (dCh p q wa wb wc)):=⟨QsP ho ho' ha.h hb.h hc.h hm⟩
theorem Qsv{e:QL}{w:DE}(h:QE .P X E e w)(he:∀whole,isTrue e X.env whole=(do let v <- whole;standAt e.pos;holding [v] (truthy v)):=by intro _;rfl):QT X E e (dTru w):=⟨Qpi h.h he⟩
theorem Qbq{e:QL}{w:DE}(h:QE .P X E e w)(he:∀whole,isTrue e X.env whole=(do let v <- whole;standAt e.pos;holding [v] (truthy v)):=by intro _;rfl):QT X E e (dTst w):=⟨Qph h.h he⟩
theorem Qjo{a:QL}{pos:Pos}{ta:DT}(ha:QT X E a ta):QW X E (.BoolOp .And [a] pos) ta:=⟨Qmc ha.h⟩
theorem QnK{a b:QL}{rest:List QL}{pos:Pos}{ta tb:DT}(ha:QT X E a ta)(hb:QW X E (.BoolOp .And (b::rest) pos) tb):QW X E (.BoolOp .And (a::b::rest) pos) (QwQ ta tb):=⟨Qpg ha.h hb.h⟩
theorem Qdl{a b:QL}{rest:List QL}{pos:Pos}{wa wb:DE}(ha:QE .P X E a wa)(hb:QE .D X E (.BoolOp .And (b::rest) pos) wb):QE .D X E (.BoolOp .And (a::b::rest) pos) (QtZ wa wb):=⟨Qs5 ha.h hb.h⟩
theorem QnJ{a:QL}{pos:Pos}{ta:DT}(ha:QT X E a ta):QW X E (.BoolOp .Or [a] pos) ta:=⟨Qpf ha.h⟩
theorem Qsu{a b:QL}{rest:List QL}{pos:Pos}{ta tb:DT}(ha:QT X E a ta)(hb:QW X E (.BoolOp .Or (b::rest) pos) tb):QW X E (.BoolOp .Or (a::b::rest) pos) (dOr ta tb):=⟨QsO ha.h hb.h⟩
theorem Qwr{a b:QL}{rest:List QL}{pos:Pos}{wa wb:DE}(ha:QE .P X E a wa)(hb:QE .D X E (.BoolOp .Or (b::rest) pos) wb):QE .D X E (.BoolOp .Or (a::b::rest) pos) (QwG wa wb):=⟨QvC ha.h hb.h⟩
theorem Quw{e:QL}{t:DT}(h:QW X E e t):QT X E e t:=⟨PW.pt h.h⟩
theorem Qbr{a:QL}{pos:Pos}{ta:DT}(ha:QT X E a ta):QT X E (.UnaryOp .Not a pos) (QwH ta):=⟨Qpj ha.h⟩
theorem Qco{op}{a:QL}{pos:Pos}{w:DE}(h:QE .D X E a w):QE .D X E (.BoolOp op [a] pos) w:=⟨QsU h.h⟩
theorem Qsy{a:QL}{pos:Pos}{wa:DE}(ha:QE .P X E a wa):QE .D X E (.UnaryOp .Not a pos) (QtW wa):=⟨QsV ha.h⟩
theorem Qvu{c a b:QL}{pos:Pos}{ta:DT}{wa wb:DE}(hc:QT X E c ta)(ha:QE .D X E a wa)(hb:QE .D X E b wb):QE .D X E (.IfExp c a b pos) (QwM ta wa wb):=⟨Qs0 hc.h ha.h hb.h⟩
theorem Q3{m:Md}:QA 0 m X E [] QwI:=⟨Qpu⟩
theorem JZ{n:Nat}{e:QL}{es:List QL}{we:DE}{wr:DAr}(he:QE .D X E e we)(hr:QA n .D X E es wr)(hs:JC e=true:=by rfl):QA (n+1) .D X E (e::es) (QkG we wr):=⟨QjE he.h hr.h hs⟩
theorem Qax{n:Nat}{e:QL}{es:List QL}{we:DE}{wr:DAr}(he:QE .P X E e we)(hr:QA n .P X E es wr)(hs:JC e=true:=by rfl):QA (n+1) .P X E (e::es) (QkG we wr):=⟨QjD he.h hr.h hs⟩
theorem YL{n:Nat}{es:List QL}{w:DAr}{x1}{pos:Pos}(h:QA n .D X E es w)(hn:n<=1000:=by decide):QE .F X E (.Tuple es x1 pos) (QwD w):=⟨QsS h.h hn⟩
theorem Y6{n:Nat}{es:List QL}{w:DAr}{pos:Pos}(h:QA n .D X E es w)(hn:n<=1000:=by decide):QE .F X E (.List es pos) (QwJ w):=⟨QsY h.h hn⟩
theorem Qvv{pos:Pos}:QE .D X E (.Dict [] [] pos) (dC (.dict [])):=⟨Qs1⟩
theorem JT{x:Str}{bid:String}{p pos:Pos}{e:QL}{es:List QL}{n:Nat}{wr:DAr}{r:List V->Hp->VK->Prop}{rD:List PyData->(PyData->Prop)->Prop}(hc:CallR X (.builtin bid) r)(hd:Qay r rD)(hg:Gl X x)(hm:X.mg x=none)(hv:bootBuiltins x=some (.builtin bid))(ha:QA n .P X E (e::es) wr)(hn:x ≠ "__name__" := by decide)(hdb:(x == ("__debug__" : Str))=false:=by decide)(he:starEach (e::es) X.env=(false,eval e X.env)::starEach es X.env:=by rfl)(hpl:(backTo pos (starEach es X.env)).any (·.1)=false:=by rfl):QE .F X E (.Call (.Name x p) (e::es) [] pos) (dCB rD wr):=⟨Qmx hc hd hg hm hv ha.h hn hdb he hpl⟩
theorem Qcz{x:Str}{T:String}{p pos:Pos}{e:QL}{es:List QL}{n:Nat}{wr:DAr}{r:List V->Hp->VK->Prop}{rD:List PyData->(PyData->Prop)->Prop}(hc:CallR X (.type T) r)(hd:Qay r rD)(hg:Gl X x)(hm:X.mg x=none)(hv:bootBuiltins x=some (.type T))(ha:QA n .P X E (e::es) wr)(hn:x ≠ "__name__" := by decide)(hdb:(x == ("__debug__" : Str))=false:=by decide)(he:starEach (e::es) X.env=(false,eval e X.env)::starEach es X.env:=by rfl)(hpl:(backTo pos (starEach es X.env)).any (·.1)=false:=by rfl):QE .F X E (.Call (.Name x p) (e::es) [] pos) (dCB rD wr):=⟨QjG hc hd hg hm hv ha.h hn hdb he hpl⟩
theorem Qe6{e:QL}{we:DE}{p pos pos2:Pos}{x:Str}(tn:Tn)(hg:Gl X "isinstance")(hm:X.mg "isinstance" = none)(he:QE .P X E e we)(hg2:Gl X x)(hm2:X.mg x=none)(hv:bootBuiltins x=some (.type tn.s))(hn:x ≠ "__name__" := by decide)(hd:(x == ("__debug__" : Str))=false:=by decide)(h1:JC e=true:=by rfl):QE .F X E (.Call (.Name "isinstance" p) [e,.Name x pos2] [] pos) (QtX tn we):=⟨Qpw tn hg hm he.h (QvG tn hg2 hm2 hv hn hd) h1 rfl⟩
theorem QcR  : QO X E none dNo:=⟨Qmn⟩
theorem QcQ{e:QL}{we:DE}(he:QE .P X E e we):QO X E (some e) (dSo we):=⟨Qmm he.h⟩
theorem QcT{e:QL}{lo hi:Option QL}{we:DE}{wl wh:DO}{p2 pos:Pos}(he:QE .P X E e we)(hl:QO X E lo wl)(hh:QO X E hi wh):QE .F X E (.Subscript e (.Slice lo hi none p2) pos) (dSl we wl wh):=⟨Qmt he.h hl.h hh.h⟩
theorem Jn  : QAs X E [] Qwf:=⟨Qpp⟩
theorem Zb{e:QL}{es:List QL}{we:DE}{wr:DSl}(he:QE .D X E e we)(hr:QAs X E es wr)(hs:JC e=true:=by rfl):QAs X E (e::es) (sV we wr):=⟨QvA he.h hr.h hs⟩
theorem Y4(i:Nat){x:Str}{pos:Pos}{es:List QL}{wr:DSl}(hr:QAs X E es wr)(hN:X.N[i]? = some x:=by rfl)(hv:Vis X.env.scope x:=by first | exact Q0 rfl | exact Q8 (Q0 rfl) | exact Q8 (Q8 rfl))(hd:(x == ("__debug__" : Str))=false:=by decide)(hcd:(x == ("__classdict__" : Str))=false:=by decide):QAs X E (.Name x pos::es) (Qvg i wr):=⟨Qpm (pv i hN hv hd hcd) hr.h rfl⟩
theorem J7{CX:CXT}{k:Nat}{f:Addr}{fd:Qy}{ps:List Str}{x:Str}{p pos:Pos}{e:QL}{es:List QL}{fD:DF}{wa:DSl}(G:FnOk X.prog X.w X.K X.mg X.base CX k f fd ps (JF false fD))(hr:Room k X.A)(hg:Gl X x)(hm:X.mg x=some (.ref f))(hk:PySem.W.keepIn X.K (.ref f)=true)(hb:Binds X.K fd ps [])(hx:Qar CX X E)(ha:QAs X E (e::es) wa)(hdb:(x == ("__debug__" : Str))=false:=by decide)(he:starEach (e::es) X.env=(false,eval e X.env)::starEach es X.env:=by rfl)(hpl:(backTo pos (starEach es X.env)).any (·.1)=false:=by rfl):QE .D X E (.Call (.Name x p) (e::es) [] pos) (Qh5 fD wa):=⟨Qpz G hr hg hm hk hb hx ha.h hdb he hpl⟩
theorem Z5{CX:CXT}{k:Nat}{f:Addr}{fd:Qy}{ps:List Str}{x:Str}{p pos:Pos}{e:QL}{es:List QL}{fD:DF}{wa:DSl}(G:FnOk X.prog X.w X.K X.mg X.base CX k f fd ps (JF true fD))(hr:Room k X.A)(hg:Gl X x)(hm:X.mg x=some (.ref f))(hk:PySem.W.keepIn X.K (.ref f)=true)(hb:Binds X.K fd ps [])(hx:Qar CX X E)(ha:QAs X E (e::es) wa)(hdb:(x == ("__debug__" : Str))=false:=by decide)(he:starEach (e::es) X.env=(false,eval e X.env)::starEach es X.env:=by rfl)(hpl:(backTo pos (starEach es X.env)).any (·.1)=false:=by rfl):QE .F X E (.Call (.Name x p) (e::es) [] pos) (Qh5 fD wa):=⟨Qmw G hr hg hm hk hb hx ha.h hdb he hpl⟩
theorem QoX{CX:CXT}{k:Nat}{f:Addr}{fd:Qy}{ps:List Str}{x:Str}{p pos:Pos}{e:QL}{es:List QL}{fD:DF}{n:Nat}{wr:DAr}(G:FnOk X.prog X.w X.K X.mg X.base CX k f fd ps (JF true fD))(hr:Room k X.A)(hg:Gl X x)(hm:X.mg x=some (.ref f))(hk:PySem.W.keepIn X.K (.ref f)=true)(hb:Binds X.K fd ps [])(hx:Qar CX X E)(ha:QA n .P X E (e::es) wr)(hdb:(x == ("__debug__" : Str))=false:=by decide)(he:starEach (e::es) X.env=(false,eval e X.env)::starEach es X.env:=by rfl)(hpl:(backTo pos (starEach es X.env)).any (·.1)=false:=by rfl):QE .F X E (.Call (.Name x p) (e::es) [] pos) (QkI fD wr):=⟨Qmv G hr hg hm hk hb hx ha.h hdb he hpl⟩
theorem QsA{k:Nat}{f:Addr}{fd:Qy}{ps:List Str}{x y:Str}{p pos pos2:Pos}{b:QL}{wb:DE}(i:Nat)(G:FnOk X.prog X.w X.K X.mg X.base CX0 k f fd ps (Qbp X.K))(hr:Room k X.A)(hg:Gl X x)(hm:X.mg x=some (.ref f))(hk:PySem.W.keepIn X.K (.ref f)=true)(hb:Binds X.K fd ps [])(h:QE .P X E b wb)(hN:X.N[i]? = some y:=by rfl)(hv:Vis X.env.scope y:=by first | exact Q0 rfl | exact Q8 (Q0 rfl) | exact Q8 (Q8 rfl))(hd:(y == ("__debug__" : Str))=false:=by decide)(hcd:(y == ("__classdict__" : Str))=false:=by decide)(h2:JC b=true:=by rfl)(hdb:(x == ("__debug__" : Str))=false:=by decide):QE .F X E (.Call (.Name x p) [.Name y pos2,b] [] pos) (Qrt i wb):=⟨Qpy G hr hg hm hk hb (pv i hN hv hd hcd) h.h rfl h2 hdb⟩
theorem Qsz{y:Str}{p pos pos2:Pos}(i:Nat)(hg:Gl X "len")(hm:X.mg "len" = none)(hN:X.N[i]? = some y:=by rfl)(hv:Vis X.env.scope y:=by first | exact Q0 rfl | exact Q8 (Q0 rfl) | exact Q8 (Q8 rfl))(hd:(y == ("__debug__" : Str))=false:=by decide)(hcd:(y == ("__classdict__" : Str))=false:=by decide):QE .F X E (.Call (.Name "len" p) [.Name y pos2] [] pos) (Qrr i):=⟨Qpv hg hm (pv i hN hv hd hcd) rfl⟩
theorem Zm(i:Nat){x:Str}{pos:Pos}(hN:X.N.Nodup)(hi:X.N[i]? = some x)(hx:Loc X.env.scope x)(hf:X.fn x=true∨X.env.scope.names.lookup x=some .local:=by first | exact .inl rfl | exact .inr rfl | assumption):QG [i] X (.Name x pos) (gN i):=⟨Qms (Qf7 hN hi hx hf)⟩
structure QGs (X:Cx) (es:List QL) (is:List Nat):Prop where h:PGs X es (gNs is)
theorem QaU  : QGs X [] []:=⟨Qpa⟩
theorem Zn(i:Nat){is:List Nat}{x:Str}{pos:Pos}{es:List QL}(h:QGs X es is)(hN:X.N.Nodup)(hi:X.N[i]? = some x)(hx:Loc X.env.scope x)(hf:X.fn x=true∨X.env.scope.names.lookup x=some .local:=by first | exact .inl rfl | exact .inr rfl | assumption)(hs:(assignEach (.Name x pos::es) X.env).map (·.2)=assign (.Name x pos) X.env::(assignEach es X.env).map (·.2):=by rfl):QGs X (.Name x pos::es) (i::is):=⟨Ql5 (Qf7 hN hi hx hf) h.h hs⟩
theorem QaT{es:List QL}{k:Nat}{pos:Pos}{is:List Nat}(hc:X.calm=true)(h:QGs X es is)(hn:(assignEach es X.env).length=is.length:=by rfl)(hst:(assignEach es X.env).findIdx? (·.1)=none:=by rfl):QG is X (.Tuple es k pos) (gTN is):=⟨Qpt (QsH hc h.h hn hst) rfl⟩
theorem QcS{m:Md}{tg e:QL}{w:DE}(h:QE m X E e w):QI m X E tg e (QwL w):=⟨Qmr h.h⟩
theorem Qbt{m:Md}{tg e:QL}{w:DE}(h:QE m X E e w):QI m X E tg e (QwK w):=⟨Qps h.h⟩
theorem YV{m:Md}{tg e:QL}{w:DE}{p pos:Pos}(hg:Gl X "range")(hm:X.mg "range" = none)(h:QE .P X E e w)(hs:JC e=true:=by rfl):QI m X E tg (.Call (.Name "range" p) [e] [] pos) (QtU w):=⟨Qmq hg hm h.h hs⟩
theorem QgQ{m:Md}{e:QL}{w:DE}{p pos tpos:Pos}{elts:List QL}{x1}(hg:Gl X "enumerate")(hm:X.mg "enumerate" = none)(h:QE m X E e w)(hs:JC e=true:=by rfl):QI m X E (.Tuple elts x1 tpos) (.Call (.Name "enumerate" p) [e] [] pos) (QwO w):=⟨QjC hg hm h.h hs⟩
theorem QoU{m:Md}{e e':QL}{w w':DE}{p pos tpos:Pos}{elts:List QL}{x1}(hg:Gl X "zip")(hm:X.mg "zip" = none)(h:QE m X E e w)(h':QE m X E e' w')(hs:JC e=true:=by rfl)(hs':JC e'=true:=by rfl):QI m X E (.Tuple elts x1 tpos) (.Call (.Name "zip" p) [e,e'] [] pos) (QwC w w'):=⟨Qmp hg hm h.h h'.h hs hs'⟩
theorem QgP{m:Md}{e:QL}{w:DE}{p pos tpos:Pos}{elts:List QL}{x1}(hg:Gl X "enumerate")(hm:X.mg "enumerate" = none)(h:QE m X E e w)(hs:JC e=true:=by rfl):QI m X E (.Tuple elts x1 tpos) (.Call (.Name "enumerate" p) [e] [] pos) (QwN w):=⟨QjB hg hm h.h hs⟩
theorem Qjr{m:Md}{e e':QL}{w w':DE}{p pos tpos:Pos}{elts:List QL}{x1}(hg:Gl X "zip")(hm:X.mg "zip" = none)(h:QE m X E e w)(h':QE m X E e' w')(hs:JC e=true:=by rfl)(hs':JC e'=true:=by rfl):QI m X E (.Tuple elts x1 tpos) (.Call (.Name "zip" p) [e,e'] [] pos) (QwB w w'):=⟨Qmo hg hm h.h h'.h hs hs'⟩
theorem Zt  : QTs X E [] QrR:=⟨Qme⟩
theorem Qf4{c:QL}{t:DT}(h:QT X E c t):QTs X E [c] t:=⟨Qmd h.h⟩
theorem QaV(M:List Str)(cap:List (Option Nat)){elt tg iter:QL}{ifs:List QL}{scope:ZK}{pos:Pos}{ix:List Nat}{wi:DI}{wg:DG}{wt:DT}{we:DE}(hi:QI .P X E tg iter wi)(hb:∀cl ex s3 H3 C,QG ix (blk X M scope cl ex s3 H3 C) tg wg/\QTs (blk X M scope cl ex s3 H3 C) E0 ifs wt/\QE .D (blk X M scope cl ex s3 H3 C) E0 elt we)(hc:X.calm=true:=by rfl)(ok:Qca X.N X.env.scope M scope cap=true:=by rfl)(hf:Qai cap ix=true:=by rfl)(hs:∀x,foldedSetIterable iter X.env x=pure x:=by intro _;rfl):QE .F X E (.ListComp elt [⟨tg,iter,ifs,0⟩] scope pos) (dComp cap wi wg wt we):=⟨Qpx hc ok hf hi.h (λcl ex s3 H3 C=>⟨(hb cl ex s3 H3 C).1.h,(hb cl ex s3 H3 C).2.1.h,(hb cl ex s3 H3 C).2.2.h⟩) hs⟩
theorem ZZ  : QSs X E [] QtS:=⟨Qmf⟩
theorem Q6{st:ZA}{w:DS}(h:QS X E st w):QSs X E [st] w:=⟨Qpn h.h⟩
theorem QP{st:ZA}{rest:List ZA}{w w':DS}(h:QS X E st w)(h':QSs X E rest w'):QSs X E (st::rest) (QwE w w'):=⟨Qmk h.h h'.h⟩
theorem Yd(i:Nat){x:Str}{e:QL}{pos pos':Pos}{we:DE}(he:QE .D X E e we)(hN:X.N.Nodup)(hi:X.N[i]? = some x:=by rfl)(hx:Loc X.env.scope x:=by first | exact Q0 rfl | exact Q8 rfl)(hs:swapsWith e (some (.Name x pos')) pos.line X.env=pure false:=by rfl)(hf:X.fn x=true∨X.env.scope.names.lookup x=some .local:=by first | exact .inl rfl | exact .inr rfl | assumption):QS X E (.Assign [.Name x pos'] e pos) (QuB i we):=⟨Qf9 (YR hN hi hx he.h hs hf)⟩
theorem QcO(i:Nat){x:Str}{e:QL}{pos pos':Pos}{we:DE}(he:QE .F X E e we)(hN:X.N.Nodup)(hi:X.N[i]? = some x:=by rfl)(hx:Loc X.env.scope x:=by first | exact Q0 rfl | exact Q8 rfl)(hs:swapsWith e (some (.Name x pos')) pos.line X.env=pure false:=by rfl)(hf:X.fn x=true∨X.env.scope.names.lookup x=some .local:=by first | exact .inl rfl | exact .inr rfl | assumption):QS X E (.Assign [.Name x pos'] e pos) (Qro i we):=⟨QgX (YR hN hi hx he.h hs hf)⟩
theorem QoT(i:Nat){x:Str}{e:QL}{pos pos':Pos}{we:DE}(he:QE .F X E e we)(hN:X.N.Nodup)(hi:X.N[i]? = some x:=by rfl)(hx:Loc X.env.scope x:=by first | exact Q0 rfl | exact Q8 rfl)(hs:swapsWith e (some (.Name x pos')) pos.line X.env=pure false:=by rfl)(hf:X.fn x=true∨X.env.scope.names.lookup x=some .local:=by first | exact .inl rfl | exact .inr rfl | assumption):QS X E (.Assign [.Name x pos'] e pos) (QtT i we):=⟨Qmg (YR hN hi hx he.h hs hf)⟩
theorem Qsx{tg e:QL}{pos:Pos}{ix:List Nat}{we:DE}{wg:DG}(he:QE .D X E e we)(hg:QG ix X tg wg)(hs:swapsWithSole [tg] e pos.line X.env=pure false:=by rfl)(hw:swappedStores [tg] e X.env=pure none:=by rfl)(h1:(assignEach [tg] X.env).map (·.2)=[assign tg X.env]:=by rfl):QS X E (.Assign [tg] e pos) (QwP we wg):=⟨Qpr (QnQ he.h hg.h hs hw h1)⟩
theorem ZJ{e:QL}{pos:Pos}{we:DE}(h:QE .D X E e we):QS X E (.Return (some e) pos) (QwF we):=⟨Qpl h.h⟩
theorem QaE{e:QL}{pos:Pos}{we:DE}(h:QE .F X E e we):QS X E (.Return (some e) pos) (QtV we):=⟨Qmi h.h⟩
theorem Qel(i:Nat){x:Str}{pos pos2:Pos}(hN:X.N[i]? = some x:=by rfl)(hv:Vis X.env.scope x:=by first | exact Q0 rfl | exact Q8 (Q0 rfl) | exact Q8 (Q8 rfl))(hd:(x == ("__debug__" : Str))=false:=by decide)(hcd:(x == ("__classdict__" : Str))=false:=by decide):QS X E (.Return (some (.Name x pos)) pos2) (Qrp i):=⟨Qmh (pv i hN hv hd hcd)⟩
theorem QaQ{c:QL}{a b:List ZA}{pos:Pos}{t:DT}{w w':DS}(hc:QT X E c t)(ha:QSs X E a w)(hb:QSs X E b w'):QS X E (.If c a b pos) (dIf t w w'):=⟨QsQ hc.h ha.h hb.h⟩
theorem Qjq{y:Str}{e k:QL}{we wk:DE}{op:Qd4}{ti:TIp}{rD:PyData->PyData->(PyData->Prop)->Prop}{pos tpos npos:Pos}(i:Nat)(ho:PIp X op ti)(hd:QrG ti rD)(hk:QE .P X E k wk)(he:QE .P X E e we)(hN:X.N[i]? = some y:=by rfl)(hv:Vis X.env.scope y:=by first | exact Q0 rfl | exact Q8 (Q0 rfl) | exact Q8 (Q8 rfl))(hdd:(y == ("__debug__" : Str))=false:=by decide)(hcd:(y == ("__classdict__" : Str))=false:=by decide)(ha:∀ov iv new,augStore k ov iv new=(do holding [new,ov,iv] (setItem ov iv new);release [new,ov,iv] [];pure .next):=by intros;rfl):QS X E (.AugAssign (.Subscript (.Name y npos) k tpos) op e pos) (Qru i rD wk we):=⟨Qml hd (Qo4 (pv i hN hv hdd hcd) hk.h Qna he.h (PIp.len ho) QgG ha)⟩
theorem QcP{tg iter:QL}{body:List ZA}{pos:Pos}{ix:List Nat}{wi:DI}{wg:DG}{wb:DS}(hp:PassesOwn (model X.prog X.w) X.A X.env X.xe)(hc:X.calm=true)(hi:QI .D X E tg iter wi)(hg:QG ix X tg wg)(hb:QSs X E body wb)(hs:∀x,foldedSetIterable iter X.env x=pure x:=by intro _;rfl):QS X E (.For tg iter body [] pos) (dFor wi wg wb):=⟨Qpq hp hc hi.h hg.h hb.h hs⟩
theorem Qbs{x:Str}{C:Addr}{e0:QL}{we:DE}{np cpos pos:Pos}(hxe:∀e s1,wpAny (model X.prog X.w) X.A (leaving X.env e) (λ_ s2=>Rx.CXE X.prog X.w X.outer X.H₀ X.s₀ E e s2) (λe' s2=>Rx.CXE X.prog X.w X.outer X.H₀ X.s₀ E e' s2) s1->X.xe e s1)(hm:X.mg x=some (.ref C))(q:PySem.W.excIn X.K C Rx.mroV "ValueError.__new__" = true)(ha:QE .P X E e0 we)(hstk:X.stack=X.env::X.outer:=by rfl)(hfr:X.env.frame=some X.env.locals:=by rfl)(hex:X.ex=[]:=by rfl)(hc:X.calm=true:=by rfl)(hg:Gl X x:=by rfl)(he:starEach [e0] X.env=[(false,eval e0 X.env)]:=by rfl)(hd:(x == ("__debug__" : Str))=false:=by decide):QS X E (.Raise (some (.Call (.Name x np) [e0] [] cpos)) none pos) (Qn7 C we):=⟨QjA (Rx.Ql0 hxe hstk hfr hex hc hg hm q ha.h he hd)⟩
theorem QaF{e:QL}{we:DE}{pos:Pos}(he:QE .P X E e we)(hs:swapsWith e none pos.line X.env=pure false:=by rfl):QS X E (.Expr e pos) (Qrs we):=⟨Qmj (Qo3 he.h hs)⟩
theorem QnL{st:ZA}{w:DS}(h:QS X.nox E0 st w):QS X E st (λD δ=>w { D with ex:=XF } δ):=⟨Qpo h.h⟩
end
section
variable{P:QD}{w:Je}{K:PySem.W.Frag}{mg:Str->Option Value}{base:JM}
theorem okQ{x qual:Str}{st:ZA}{f:Addr}{fd:Qy}{N ps:List Str}{k:Nat}{fD:DF}(fr:Bool)(F:Fun K x qual st f fd)(S:Jg N ps (Qk st))(len:∀args R EX,fD args R EX->args.length=ps.length)
  (hbody:∀(cdv:Value)(A:Q5)(outer:List Env)(s:Shared)(H:Hp)(E:XK),Room k (A.deeper (envOfC qual (Qk st) s.heap.objs.size f cdv)) ->
   ∃wd,QSs (cxOf CX0 P w K mg base N qual (Qk st) f cdv A outer s H E).nox E0 (Jd st) wd/\∀args R EX,fD args R EX->wd (Qgk fr R XF) (stD N args)):FnOk P w K mg base CX0 (k+1) f fd ps (JF fr fD):=
 okD fr F S len λcdv A outer s H E hr=>let ⟨wd,h,q⟩:=hbody cdv A outer s H E hr;⟨wd,h.h,q⟩
theorem QnV{x qual:Str}{st:ZA}{f:Addr}{fd:Qy}{N ps:List Str}{k:Nat}{fD:DF}(fr:Bool)(F:Fun K x qual st f fd)(S:Jg N ps (Qk st))(len:∀args R EX,fD args R EX->args.length=ps.length)
  (hbody:∀(cdv:Value)(A:Q5)(outer:List Env)(s:Shared)(H:Hp)(E:XK),Room k (A.deeper (envOfC qual (Qk st) s.heap.objs.size f cdv)) ->
   ∃wd,QSs (cxOf (Rx.CXE P w) P w K mg base N qual (Qk st) f cdv A outer s H E) E (Jd st) wd/\∀args R EX,fD args R EX->wd (Qgk fr R EX) (stD N args)):FnOk P w K mg base (Rx.CXE P w) (k+1) f fd ps (JF fr fD):=
 Qxb fr F S len λcdv A outer s H E hr=>let ⟨wd,h,q⟩:=hbody cdv A outer s H E hr;⟨wd,h.h,q⟩
end
section
variable{X:Cx}{E:XK}
theorem Qgm{A:Addr->Prop}{H:Hp}:∀{xs:List V}{ds:List PyData},DAs A H xs ds->∀(i:Nat)(x:V),xs[i]? = some x->∃d,ds[i]? = some d/\DA A H x d
 |_,_,.nil,i,x,h=>nomatch h
 |_,_,.cons a b,0,x,h=>by cases h;exact⟨_,rfl,a⟩
 |_,_,.cons a b,i+1,x,h=>Qgm b i x h
theorem Qhe{A:Addr->Prop}{H:Hp}:∀{xs:List V}{ds:List PyData},DAs A H xs ds->xs.length=ds.length
 |_,_,.nil=>rfl
 |_,_,.cons _ b=>by rw[Q4,Q4,Qhe b]
end
end Dl
namespace L2
open PySem.Calls _root_.Rd _root_.Rk Dl
def spT(P:Addr)(q:Str)(sp:Sp):Sp:=λvs H Q E=>TH P q H/\sp vs H Q E
section
variable{X:Cx}{CX:CXT}{k:Nat}{f tP:Addr}{fd:Qy}{ps:List Str}{sp:Sp}{dvs:List V}{ds:List Value}{E:XK}{x tq:Str}{p pos:Pos}{e:QL}{es:List QL}{t:TA}
theorem Qma(hT:TH tP tq X.H₀)(F:FnOk X.prog X.w X.K X.mg X.base CX k f fd ps (spT tP tq sp))(hr:Room k X.A)(hg:Gl X x)(hm:X.mg x=some (.ref f))(hk:PySem.W.keepIn X.K (.ref f)=true)(hb:Binds X.K fd ps ds)(hd:Vals dvs ds)(hx:Qar CX X E)
  (ha:PA X (e::es) t)(hdb:(x == ("__debug__" : Str))=false:=by decide)(he:starEach (e::es) X.env=(false,eval e X.env)::starEach es X.env:=by rfl)(hpl:(backTo pos (starEach es X.env)).any (·.1)=false:=by rfl) :
  PE X (.Call (.Name x p) (e::es) [] pos) (QlB sp dvs E t):=by
 intro pins s σ H Q I h;refine Z3 (Qb2 I hg hm ?_ hdb);refine PySem.W.callWith_K (h₀:=X.base) I.ok.mod.kin hk (thn (ha pos pins s σ H _ I h) λus s1 ⟨vs,H1,I1,r,q⟩=>⟨I1.kIn,?_⟩) he hpl;exact QnG F hr hb hd hx I1 r ⟨I1.th hT,q⟩
end
section
variable{P:QD}{w:Je}{K:PySem.W.Frag}{mg:Str->Option Value}{base:JM}
end
end L2
namespace Dl
open PySem.Calls L2 _root_.Rd Rk
section
variable{P:QD}{w:Je}{K:PySem.W.Frag}{mg:Str->Option Value}{base:JM}
end
section
variable{X:Cx}{E:XK}
theorem Qa6{CX:CXT}{k:Nat}{f tP:Addr}{tq:Str}{fd:Qy}{ps:List Str}{x:Str}{p pos:Pos}{e:QL}{es:List QL}{fD:DF}{wa:DSl}(hT:TH tP tq X.H₀)(G:FnOk X.prog X.w X.K X.mg X.base CX k f fd ps (spT tP tq (JF false fD)))(hr:Room k X.A)(hg:Gl X x)(hm:X.mg x=some (.ref f))(hk:PySem.W.keepIn X.K (.ref f)=true)(hb:Binds X.K fd ps [])(hx:Qar CX X E)
  (ha:QAs X E (e::es) wa)(hdb:(x == ("__debug__" : Str))=false:=by decide)(he:starEach (e::es) X.env=(false,eval e X.env)::starEach es X.env:=by rfl)(hpl:(backTo pos (starEach es X.env)).any (·.1)=false:=by rfl):QE .D X E (.Call (.Name x p) (e::es) [] pos) (Qh5 fD wa):=
 ⟨PE.imp (Qma hT G hr hg hm hk hb .nil hx ha.h hdb he hpl) (Qc9 λh _=>h)⟩
@[irreducible] def Qb0(fD:DF)(bd:PyData):PyData->(PyData->Prop)->Prop
 |.list ds,Q=>∃val:Nat->Int,(∀(i:Nat) d,ds[i]? = some d->fD [.v bd,.v d] (λr=>r=.int (val i)) XF)/\(ds=[]->Q .none)/\∀d,ds[bstI val (ds.length - 1)]? = some d->Q d
 |_,_=>False
theorem Qj9{fD:DF}{bd:PyData}{ds:List PyData}{Q:PyData->Prop}(val:Nat->Int)(h1:∀(i:Nat) d,ds[i]? = some d->fD [.v bd,.v d] (λr=>r=.int (val i)) XF)(h0:ds=[]->Q .none)(h:∀d,ds[bstI val (ds.length - 1)]? = some d->Q d):Qb0 fD bd (.list ds) Q:=by
 unfold Qb0;exact⟨val,h1,h0,h⟩
def vAt(ib:Nat)(δ:Sts)(k:PyData->Prop):Prop:=match δ[ib]? with
 |some (.v bd)=>k bd
 |_=>False
def Qrq(fD:DF)(ib:Nat)(w:DE):DE:=λδ Q EX=>w δ (λd=>vAt ib δ λbd=>Qb0 fD bd d Q) EX
theorem Qly{ib:Nat}{δ:Sts}{k:PyData->Prop}(h:vAt ib δ k):∃bd,δ[ib]? = some (.v bd)/\k bd:=by
 unfold vAt at h;split at h
 ·rename_i bd e
  exact⟨bd,e,h⟩
 ·exact h.elim
theorem QlV{k:Nat}{fw P c cb:Addr}{fdw:Qy}{ps2:List Str}{fr:Bool}{fD:DF}{e:QL}{w:DE}{q bn pn wn:Str}{params:Qd9}{lsc:ZK}{p lp kp cp kp2 pos p1 p2 p3 bp:Pos}(ib:Nat)
  (G:FnOk X.prog X.w X.K X.mg X.base CX0 k fw fdw ps2 (JF fr fD))(hr:Room (k+2) X.A)(hg:Gl X "min")(hm:X.mg "min" = none)(hb:Binds X.K fdw ps2 [])(hmw:X.mg wn=some (.ref fw))(hkw:PySem.W.keepIn X.K (.ref fw)=true)
  (hT:TH P q X.H₀)(hC:PySem.W.CodeHd X.base c P)(hB:Qa0 X.base X.mg)(hcode:X.env.code=.ref c)(hcb:X.env.cells.lookup bn=some cb)(hcl:closureFor lsc X.env=pure [(bn,cb)])(h:QE .P X E e w)(hq:q=X.env.qual ++ "<lambda>")(hdef:defaultsOf params X.env=([],[]))
  (hib:X.N[ib]? = some bn)(hkb:X.env.scope.names.lookup bn=some .cell)
  (sk:lsc.kind=.function)(sco:lsc.isCoroutine=false)(sge:lsc.isGenerator=false)(hcell:∀y∈lsc.names,y.2≠.cell)(hpn:lsc.names.lookup pn=some .local)(hbn:lsc.names.lookup bn=some .free)(hfr:∀y,lsc.names.lookup y=some .free->y=bn)
  (hwn:lsc.names.lookup wn=some .globalImplicit)(dp:(pn == ("__debug__" : Str))=false)(db:(bn == ("__debug__" : Str))=false)(dw:(wn == ("__debug__" : Str))=false)(dp2:(pn == ("__classdict__" : Str))=false)(db2:(bn == ("__classdict__" : Str))=false)
  (hbind:∀(pm ctv:Value)(c':Addr)(u:Value),bindArgs (PySem.W.kla_fn "<lambda>" q params (.Call (.Name wn p1) [.Name bn p2,.Name pn p3] [] bp) lsc [(bn,cb)] pm (.ref c') ctv) ⟨[u],[]⟩=pure [(pn,u)])
  (hc:X.calm=true)(hs:JC e=true) :
  QE .D X E (.Call (.Name "min" p) [e] [⟨some "key",.Lambda params (.Call (.Name wn p1) [.Name bn p2,.Name pn p3] [] bp) lsc lp,kp⟩,⟨some "default",.Constant .none 0 cp,kp2⟩] pos) (Qrq fD ib w):=by
 refine⟨PE.imp (Qjx (E0:=λ_ _ _=>False) G hr hg hm hb hmw hkw hc hT hq hC hcode hB hcl hdef hib hkb hcb sk sco sge hcell hpn hbn hfr hwn dp db dw dp2 db2 hbind h.h (ZO hs)) λσ H Q ⟨F,δ,R,EX,rel,hw,k,o⟩=>?_⟩;refine⟨F,δ,_,EX,rel,hw,λd hd v H1 rel1 kp1 vk=>?_,o⟩;obtain⟨bd,eb,hd⟩:=Qly hd;have hd:Qb0 fD bd d _:=hd;unfold Qb0 at hd;split at hd
 ·rename_i ds
  obtain⟨val,hf,hN,hQ⟩:=hd;obtain⟨l,xs,rfl,e,q⟩:=DP.list vk;have ln:=Qhe q;have lb:ib < σ.length:=by rw[rel1.len];exact(Qw.mp eb).1
  obtain⟨bv,hbv,dbv⟩:=rel1.sl ib _ _ (Qm lb) eb;refine⟨l,xs,val,bv,rfl,e,by rw[Qm lb,hbv],λS i x hS hx H2 kb=>?_,λe0 H' sm=>?_,λx hx H' sm=>?_⟩
  ·obtain⟨d,hd,da⟩:=Qgm q i x hx;have mv:∀a o,¬Av F σ δ a->H1 a=some o->H2 a=some o:=λa o na ha=>kb a o (λz=>by rw[z,hS] at ha;cases ha) ha
   refine⟨Av F σ δ,λ_=>False,[.v bd,.v d],_,XF,λa ha=>?_,λp hp=>hp.elim,.cons ?_ (.cons ?_ .nil),hf i d hd,λd' e' v H' kq da' _=>?_,λC hC=>hC.elim⟩
   ·obtain⟨ys,hy⟩:=rel1.isl ha;exact⟨ys,kb a _ (λz=>by rw[z,hS] at hy;cases hy) hy⟩
   ·exact dbv.mv mv λa ha=>.inl ha
   ·exact da.mv mv λa ha=>.inl ha
   ·subst e';cases da';exact⟨rfl,λb o hb=>kq.1 b o (λz=>z) hb⟩
  ·exact k .none (hN (by rw[e0] at ln;exact List.eq_nil_of_length_eq_zero ln.symm)) .non H' (rel1.same sm) (kp1.trans (Kp.same rel1 sm)) .non
  ·rw[ln] at hx;obtain⟨d,hd,da⟩:=Qgm q _ x hx;exact k d (hQ d hd) x H' (rel1.same sm) (kp1.trans (Kp.same rel1 sm)) (da.same sm)
 ·exact hd.elim
end
end Dl
namespace L2
open PySem.Calls _root_.Rd _root_.Rk Dl
theorem Qke{P:QD}{w:Je}{K:PySem.W.Frag}{mg mb:Str->Option Value}{CX:CXT}{k:Nat}{fa a tc tP:Addr}{tq:Str}{fd:Qy}{x:Str}{sp:Sp}{s₁:Shared}{vs:List Value}{ns:List Int}
  (hT:PySem.W.CodeHd s₁.heap tc tP)(hP:s₁.heap.get? tP=some (PySem.W.tabObj #[]))(hno:PySem.W.noTabs K=true)(hbm:Qa0 s₁.heap mg)
  (KX:K.In s₁.heap)(hns:s₁.heap.Ns mainGlobals mg)(hb:s₁.heap.Ns builtinsNs mb)(hbb:∀x:Str,x ≠ "__name__" -> mb x=bootBuiltins x)(hlim:s₁.heap.NoLimit)(hg:s₁.gens=#[])
  (ha:s₁.heap.get? a=some { cls:=.type "list",data:=.seq vs.toArray })(hi:Qbj vs ns)(hl:ns.length<=sizeLine)(hr:Room k callerA)
  (F:∀base:JM,K.In base->base.Ns mainGlobals mg->PySem.W.CodeHd base tc tP->Qa0 base mg->FnOk P w K mg base CX k fa fd [x] (spT tP tq sp))(hbind:∀(s:Shared)(u:Value),Qdi s fd ⟨[u],[]⟩ [(x,u)])
  (hsp:∀H:Hp,SqL K H a (ns.map V.int)->sp [.ref a] H (λv _=>v=.bl true) λ_ _ _=>False)
  (hCX:∀H e s',CX [] H s₁ (λ_ _ _=>False) e s'->False) :
  codeAny (model P w) callerA (.call (.ref fa) ⟨[.ref a],[]⟩) (λr s'=>r=.ok (.ret (.bool true))/\OldK s₁.heap s'.heap/\s'.os=s₁.os/\Qcn s'.gens) s₁:=by
 have rv:=QeZ hi;have lenV:=hi.length;have naP:a≠tP:=λz=>by rw[z,hP] at ha;cases ha
 have core:∀H:Hp,(∀b,H b=none∨(∃o xs,H b=some (.frz o (.lst xs)))∨b=tP)->H tP=some (.tbl #[.str tq 0])->SqL K H a (ns.map V.int)->HOk P w H s₁.heap->(∀b,H b≠none->b=a∨b=tP)->(H a≠none->K.lookup a=none) ->
   codeAny (model P w) callerA (.call (.ref fa) ⟨[.ref a],[]⟩) (λr s'=>r=.ok (.ret (.bool true))/\OldK s₁.heap s'.heap/\s'.os=s₁.os/\Qcn s'.gens) s₁:=by
  intro H hO hTP hS hok hA hK;have base_of:∀{b:Addr}{o:Obj},s₁.heap.get? b=some o->H b=none->(Qkr s₁.heap H).get? b=some o:=λe n=>Qm8 e n
  have free_of:∀{b:Addr}{o:Obj},s₁.heap.get? b=some o->o≠PySem.W.tabObj #[]->(∀n,o≠{ cls:=.type "list",data:=.seq vs.toArray n })->H b=none:=λ{b o} e d1 d2=>by
   cases q:H b with
   |none=>rfl
   |some u=>
    rcases hA b (by rw[q];simp) with e' | e'
    ·subst e';rw[ha] at e;cases e;exact absurd rfl (d2 _)
    ·subst e';rw[hP] at e;cases e;exact absurd rfl d1
  have noA:∀{b:Addr}{o:Obj}{es:Array DictEntry}{ep:Nat},s₁.heap.get? b=some o->o.data=.dict es ep->H b=none:=λ{b o es ep} e d=>free_of e (λz=>by rw[z] at d;cases d) λn z=>by rw[z] at d;cases d
  have nsK:∀{b:Addr}{m:Str->Option Value},s₁.heap.Ns b m->(Qkr s₁.heap H).Ns b m:=λ{b m} ⟨o,es,ep,e,d,r⟩=>⟨o,es,ep,base_of e (noA e d),d,r⟩
  have hKb:K.In (Qkr s₁.heap H):=λb o e=>base_of (KX b o e) (by
   cases q:H b with
   |none=>rfl
   |some u=>
    rcases hA b (by rw[q];simp) with e' | e'
    ·subst e';rw[hK (by rw[q];simp)] at e;cases e
    ·subst e';have e2:=KX _ _ e;rw[hP] at e2;cases e2;have h2:=J6.mp hno (b,_) (PySem.W.mem_of_lookupK e);exact absurd (show false=true from h2) Qr)
  have hM:Mod K mg (Qkr s₁.heap H):=⟨hKb,nsK hns,⟨mb,nsK hb,hbb⟩,let ⟨mc,h1,h2⟩:=hlim;⟨mc,nsK h1,h2⟩⟩;have hC:PySem.W.CodeHd (Qkr s₁.heap H) tc tP:=by
   obtain⟨o,us,file,tf,flags,tg,inF,text,tt,e1,e2,r⟩:=id hT;exact⟨o,us,file,tf,flags,tg,inF,text,tt,base_of e1 (free_of e1 (λz=>by rw[z] at e2;cases e2) λn z=>by rw[z] at e2;injection e2 with e3;exact absurd e3 (by decide)),e2,r⟩
  have hB:Qa0 (Qkr s₁.heap H) mg:=by
   obtain⟨bm,ob,b1,b2,b3,b4,b5,b6⟩:=id hbm;exact⟨bm,ob,b1,b2,base_of b3 (free_of b3 (λz=>by rw[z] at b4;cases b4) λn z=>by rw[z] at b4;injection b4 with b7;exact absurd b7 (by decide)),b4,b5,b6⟩
  have e0:Env0 P w K mg (Qkr s₁.heap H) callerA [] s₁ H:=⟨rfl,hM,λb o e=>QpQ e,Nat.le_of_eq (Qkq _ _),trivial,λb hb=>absurd (show b∈([]:List Addr) from hb) (by simp),hok,.of_eq hg⟩;refine YT ((F _ hKb (nsK hns) hC hB).run callerA [] s₁ H ⟨[.ref a],[]⟩ [.ref a] [.ref a] _ _ hr e0 (hbind s₁ (.ref a)) (.cons rfl .nil) ⟨⟨0,#[],by rw[hTP];rfl⟩,hsp H hS⟩) λr s' h=>?_
  cases r with
  |error e=>exact(hCX H e s' h).elim
  |ok fl=>
   cases fl with
   |next=>exact Jh h
   |brk=>exact Jh h
   |cont=>exact Jh h
   |ret u=>
    obtain⟨v,H',os,bare,un,hok',r',q⟩:=h;have q':v=.bl true:=q;subst q';obtain rfl:u=Zo true:=r';obtain⟨more,eT⟩:=un.tbls tP _ hTP;obtain⟨qs,gP,_⟩:=hok' tP _ eT;have keep:∀b o,b≠tP->s₁.heap.get? b=some o->s'.heap.get? b=some o:=λb o nb e=>by
     cases q:H b with
     |none=>exact un.keep b o e q (by intro z;exact absurd (show b∈([]:List Addr) from z) (by simp)) (by simp)
     |some u=>
      rcases hO b with z | ⟨ob,xs,z⟩ | z
      ·rw[q] at z;cases z
      ·have z2:=un.frzs b ob _ z;obtain⟨e1,_⟩:=hok b _ z;obtain⟨e2,_⟩:=hok' b _ z2;rw[e] at e1;cases e1;exact e2
      ·exact absurd z nb
    refine⟨rfl,⟨λb o e=>?_,λb o e=>?_⟩,os,bare⟩
    ·by_cases z:b=tP
     ·subst z;rw[hP] at e;cases e;exact .inr (.inl ⟨(hT.tab hP).isCodeTable,rfl,#[],qs,rfl,by rw[Array.empty_append];exact gP⟩)
     ·exact .inl (keep b o z e)
    ·by_cases z:b=tP
     ·subst z;exact⟨_,gP⟩
     ·exact⟨o,keep b o z e⟩
 have tblOk:∀H:Hp,ObjOk P w H s₁.heap tP (.tbl #[.str tq 0]):=λH=>⟨#[],hP,trivial,λpos v e=>nomatch e⟩
 cases hk:K.lookup a with
 |some o=>
  have e:=KX a o hk;rw[ha] at e;cases e;refine core (λb=>if b=tP then some (.tbl #[.str tq 0]) else none) (λb=>?_) (if_pos rfl) (.inr ⟨_,vs.toArray,_,hk,rfl,rfl,rfl,by rw[Qo,lenV];exact hl,by simpa using rv⟩) (λb u z=>?_) (λb z=>?_) λz=>absurd (if_neg naP) z
  ·by_cases hb:b=tP
   ·exact .inr (.inr hb)
   ·exact .inl (if_neg hb)
  ·by_cases hb:b=tP
   ·have z':=(if_pos hb).symm.trans z;cases z';subst hb;exact tblOk _
   ·have z':=(if_neg hb).symm.trans z;cases z'
  ·by_cases hb:b=tP
   ·exact .inr hb
   ·exact absurd (if_neg hb) z
 |none=>
  refine core (λb=>if b=tP then some (.tbl #[.str tq 0]) else if b=a then some (.frz { cls:=.type "list",data:=.seq vs.toArray } (.lst (ns.map V.int))) else none) (λb=>?_) (if_pos rfl) (.inl (.inr ⟨{ cls:=.type "list",data:=.seq vs.toArray },(if_neg naP).trans (if_pos rfl)⟩)) (λb u z=>?_) (λb z=>?_) λ_=>hk
  ·by_cases hb:b=tP
   ·exact .inr (.inr hb)
   ·by_cases hb2:b=a
    ·exact .inr (.inl ⟨_,_,(if_neg hb).trans (if_pos hb2)⟩)
    ·exact .inl ((if_neg hb).trans (if_neg hb2))
  ·by_cases hb:b=tP
   ·have z':=(if_pos hb).symm.trans z;cases z';subst hb;exact tblOk _
   ·by_cases hb2:b=a
    ·have z':=((if_neg hb).trans (if_pos hb2)).symm.trans z;cases z';subst hb2;exact⟨ha,by rw[Qg];exact hl,vs,_,rv,ha⟩
    ·have z':=((if_neg hb).trans (if_neg hb2)).symm.trans z;cases z'
  ·by_cases hb:b=tP
   ·exact .inr hb
   ·by_cases hb2:b=a
    ·exact .inl hb2
    ·exact absurd ((if_neg hb).trans (if_neg hb2)) z
theorem Qlx{tc tP:Addr}{tq:Str}{l:PySem.W.OpenLaw}{n k:Nat}{q:QD}{loose:List Str}{XP:(Str->Option Value)->JM->Prop}{YP:Je->JM->Prop}{d:DefRec}{K:Params->PySem.W.Frag}{CX:Je->CXT}{sp:Je->Sp}{x:Str}
  (hn:l.most=some n)(hn2:n<=sizeLine)(hdf:d.params.defaults=[])(hr:Room k callerA)
  (hY:∀(w:Je)(h:JM),YP w h->(K w.params).In h)
  (F:∀(w:Je)(mg:Str->Option Value)(fa:Addr)(h:JM),(K w.params).In h->h.Ns mainGlobals mg->mg d.name=some (.ref fa) ->
   ∃fd:Qy,(∀(s:Shared)(u:Value),Qdi s fd ⟨[u],[]⟩ [(x,u)]) /\
    ∀base:JM,(K w.params).In base->base.Ns mainGlobals mg->PySem.W.CodeHd base tc tP->Qa0 base mg->FnOk l.prog w (K w.params) mg base (CX w) k fa fd [x] (spT tP tq (sp w)))
  (hno:∀w:Je,PySem.W.noTabs (K w.params)=true) (hTb:∀(w:Je)(h:JM),YP w h->h.get? tP=some (PySem.W.tabObj #[])) (hCd:∀w:Je,PySem.W.codeHdIn (K w.params) tc tP=true)
  (hsp:∀(w:Je)(H:Hp)(a:Addr)(ns:List Int),ns.length<=n->SqL (K w.params) H a (ns.map V.int)->sp w [.ref a] H (λv _=>v=.bl true) λ_ _ _=>False)
  (hCX:∀(w:Je)(H:Hp)(s:Shared)(e:Value)(s':Shared),CX w [] H s (λ_ _ _=>False) e s'->False) :
  PySem.W.WalkO q loose XP YP l.row.toRowW d [] (λf vs=>PySem.call f vs):=by
 refine Att.Qgv hn hdf λw s₀ s₁ mg mb fa o pm cd doc a vs ns G Y ho hd hcd hmg hobj hints hlen hg=>?_
 have KX:=hY w _ Y;obtain⟨fd,hb,hF⟩:=F w mg fa _ KX G.T.g hmg;exact Qke (PySem.W.codeHd_of_K KX (hCd w)) (hTb w _ Y) (hno w) G.T.bmain KX G.T.g G.T.b G.T.builtins G.T.nolimit hg hobj hints (QQ hlen hn2) hr hF hb (λH hS=>hsp w H a ns hlen hS) λH e s'=>hCX w H s₁ e s'
end L2
namespace Dl
open PySem.Calls L2 _root_.Rd Rk
section
variable{P:QD}{w:Je}{K:PySem.W.Frag}{mg:Str->Option Value}{base:JM}
theorem Qtk{tP:Addr}{tq:Str}{x qual:Str}{st:ZA}{f:Addr}{fd:Qy}{N:List Str}{p:Str}{k:Nat}(F:Fun K x qual st f fd)(S:Jg N [p] (Qk st))
  (hbody:∀(cdv:Value)(A:Q5)(outer:List Env)(s:Shared)(H:Hp)(E:XK),Room k (A.deeper (envOfC qual (Qk st) s.heap.objs.size f cdv))->TH tP tq H ->
   ∃wd,PSs (cxOf CX0 P w K mg base N qual (Qk st) f cdv A outer s H E).nox (Jd st) (tS K E0 wd)/\wd QtM (stD N [.scr])):FnOk P w K mg base CX0 (k+1) f fd [p] (spT tP tq (Qds K)):=by
 refine F.ok S (λvs H Q E h=>?_) λcdv A outer s H vs Q E hr h=>?_
 ·obtain⟨_,a,ns,rfl,_⟩:=h;rfl
 ·obtain⟨wd,hp,hw⟩:=hbody cdv A outer s H E hr h.1;obtain⟨_,a,ns,rfl,sq,n63,k⟩:=h;have get0:∀(i:Nat) o y,(L2.start N [V.ref a])[i]? = some o->(stD N [.scr])[i]? = some y->y≠.no->o=some (.ref a)/\y=.scr:=λi o y h1 h2 hy=>by
   cases i with
   |zero=>cases h1;cases h2;exact⟨rfl,rfl⟩
   |succ i=>
    unfold stD at h2;rw[Qaa (by simp),Yk] at h2;split at h2
    ·exact absurd (Qq h2).symm hy
    ·cases h2
  have noav:∀b,¬Av (⟨H,λ_=>False,λ_=>False⟩:Fm) (L2.start N [V.ref a]) (stD N [.scr]) b:=λb z=>by
   rcases z with z | ⟨i,h1,h2⟩
   ·exact z
   ·rcases h2 with h2 | ⟨ds,h2⟩
    ·cases(get0 i _ _ h1 h2 (λz=>by cases z)).2
    ·cases(get0 i _ _ h1 h2 (λz=>by cases z)).2
  refine⟨_,hp,⟨H,λ_=>False,λ_=>False⟩,_,_,?_,hw,?_⟩
  ·exact{
    len:=by unfold L2.start stD;simp
    dom:=λ_ h=>h.elim
    dom0:=λ_ h=>h.elim
    pt0:=λ_ h=>h.elim
    kx:=λ_ _ _ e=>e
    sl:=λi o y h1 h2=>by
     cases y with
     |no=>trivial
     |scr=>
      obtain⟨rfl,_⟩:=get0 i _ _ h1 h2 (λz=>by cases z);exact⟨a,ns,rfl,sq,λz=>z,n63⟩
     |v d=>cases(get0 i _ _ h1 h2 (λz=>by cases z)).2
     |own d=>cases(get0 i _ _ h1 h2 (λz=>by cases z)).2
     |pk d=>cases(get0 i _ _ h1 h2 (λz=>by cases z)).2
     |pot=>cases(get0 i _ _ h1 h2 (λz=>by cases z)).2
    inj:=λi j b ds h1 h2 _=>by cases(get0 i _ _ h2 h1 (λz=>by cases z)).2 }
  ·exact{
    nx:=⟨λ_ h=>h.elim⟩
    rt:=λd h v H' ke dv=>by cases(show d=.bool true from h);cases dv;exact k H'
    rtF:=λd h v H' ke dv _=>by cases(show d=.bool true from h);cases dv;exact k H'
    bk:=⟨λ_ h=>h.elim⟩
    ct:=⟨λ_ h=>h.elim⟩
    ex:=Qiw }
theorem QvK{tP:Addr}{tq:Str}{x qual:Str}{st:ZA}{f:Addr}{fd:Qy}{N:List Str}{p:Str}{k:Nat}(F:Fun K x qual st f fd)(S:Jg N [p] (Qk st))
  (hbody:∀(cdv:Value)(A:Q5)(outer:List Env)(s:Shared)(H:Hp)(E:XK),Room k (A.deeper (envOfC qual (Qk st) s.heap.objs.size f cdv))->TH tP tq H ->
   ∃wd,QSs (cxOf CX0 P w K mg base N qual (Qk st) f cdv A outer s H E).nox E0 (Jd st) wd/\wd QtM (stD N [.scr])):FnOk P w K mg base CX0 (k+1) f fd [p] (spT tP tq (Qds K)):=
 Qtk F S λcdv A outer s H E hr hT=>let ⟨wd,h,q⟩:=hbody cdv A outer s H E hr hT;⟨wd,h.h,q⟩
end
end Dl
namespace Rk
open L2 _root_.Rd Dl
def inW(d:PyData)(a b:Int):Bool:=match d with
 |.int i=>decide (a<=i)&&decide (i<=b)
 |_=>false
theorem Qdm{i a b:Int}(h1:a<=i)(h2:i<=b):inW (.int i) a b=true:=by
 show(decide (a<=i)&&decide (i<=b))=true;rw[decide_eq_true h1,decide_eq_true h2];rfl
theorem Qh2{d:PyData}{a b:Int}(h:inW d a b=true):∃i,d=.int i/\a<=i/\i<=b:=by
 cases d<;>first | (cases h;done) | skip
 rename_i i
 have h:=QC.mp (show(decide (a<=i)&&decide (i<=b))=true from h);exact⟨i,rfl,of_decide_eq_true h.1,of_decide_eq_true h.2⟩
def QbM:DF:=λargs R _=>∃d a b,args=[.v d,.v (.int a),.v (.int b)]/\R (.bool (inW d a b))
theorem Qwv(ns:List Int):(ns.map Qe).length=ns.length:=Qg _
theorem QmP(ns:List Int):nds (ns.map Qe)=true:=Qj2.mpr λd hd=>by
 obtain⟨i,_,rfl⟩:=QU.mp hd;rfl
end Rk
namespace Rx
open PySem.Calls L2
section
variable{X:Cx}{e:QL}{st:ZA}{rest:List ZA}{pos:Pos}{te:TX}{t u:TSX}
end
end Rx
namespace L2
open Dl
theorem FnOk.nofr{P:QD}{w:Je}{K:PySem.W.Frag}{mg:Str->Option Value}{base:JM}{CX:CXT}{k:Nat}{f:Addr}{fd:Qy}{ps:List Str}{fD:DF}(F:FnOk P w K mg base CX k f fd ps (JF true fD)):FnOk P w K mg base CX k f fd ps (JF false fD):=
 F.imp λvs H Q E ⟨A,pt,args,R,EX,h1,h2,h3,h4,h5,h6⟩=>⟨A,pt,args,R,EX,h1,h2,h3,h4,λd hd v H' kq dv _=>h5 d hd v H' kq dv (λz=>by cases z),h6⟩
end L2
namespace Dl
open L2 _root_.Rd Rk
def tXx(m:Md)(K:PySem.W.Frag)(w:DE):Rx.TX:=λσ H Q Ex=>∃(F:Fm)(δ:Sts)(R:PyData->Prop)(EX:XP),Rel K F σ H δ/\w δ R EX/\(∀d,R d->∀v H',Rel K F σ H' δ->Kp σ δ H H'->Vok m F σ δ H H' v d->Q v H')/\∀C,EX C->∀H',Rel K F σ H' δ->Kp σ δ H H'->Ex C H'
structure Qwa (K:PySem.W.Frag) (F:Fm) (σ:L2.St) (H:Hp) (δ:Sts) (DD:Qde) (D:L2.Ends) (Ex:Addr->Hp->Prop):Prop where
 nx:∀δ',DD.nx δ'->δ'=δ/\∀H',Rel K F σ H' δ->Kp σ δ H H'->D.nx σ H'
 rt:∀d,DD.rt d->∀v H',Ke F H'->DA F.A0 H' v d->D.rt v H'
 rtF:∀d,DD.rtF d->∀v H',Ke F H'->DA F.A0 H' v d->FrV F.H0 H' v->D.rt v H'
 ex:∀C,DD.ex C->∀H',Rel K F σ H' δ->Kp σ δ H H'->Ex C H'
def tSx(K:PySem.W.Frag)(w:DS):Rx.TSX:=λD σ H Ex=>∃(F:Fm)(δ:Sts)(DD:Qde),Rel K F σ H δ/\w DD δ/\Qwa K F σ H δ DD D Ex
structure QX (m:Md) (X:Cx) (e:QL) (w:DE):Prop where h:Rx.PEX X e (tXx m X.K w)
structure QSX (X:Cx) (st:ZA) (w:DS):Prop where h:Rx.PSX X st (tSx X.K w)
structure QSXs (X:Cx) (sts:List ZA) (w:DS):Prop where h:Rx.Qv9 X sts (tSx X.K w)
section
variable{X:Cx}
theorem PEX.imp{e:QL}{t t':Rx.TX}(h:Rx.PEX X e t)(i:∀σ H Q Ex,t' σ H Q Ex->t σ H Q Ex):Rx.PEX X e t':=λpins s σ H Q Ex I q=>h pins s σ H Q Ex I (i σ H Q Ex q)
theorem PSX.imp{e:ZA}{t t':Rx.TSX}(h:Rx.PSX X e t)(i:∀D σ H Ex,t' D σ H Ex->t D σ H Ex):Rx.PSX X e t':=λpins s σ H D Ex I q=>h pins s σ H D Ex I (i D σ H Ex q)
variable{k:Nat}{f:Addr}{fd:Qy}{ps:List Str}{x:Str}{p pos:Pos}{e:QL}{es:List QL}{fD:DF}{wa:DSl}
theorem QkX{m:Md}{fr:Bool}{K:PySem.W.Frag}{F:Fm}{σ:L2.St}{δ:Sts}{H H1:Hp}{R:PyData->Prop}{EX:XP}{Q:VK}{Ex:Addr->Hp->Prop}{vs:List V}{args:List Sl}(hm:∀{v:V}{d:PyData}{H':Hp},DA (Av F σ δ) H' v d->(fr=true->FrV H H' v)->Vok m F σ δ H H' v d)
  (k:∀d,R d->∀v H',Rel K F σ H' δ->Kp σ δ H H'->Vok m F σ δ H H' v d->Q v H')(kx:∀C,EX C->∀H',Rel K F σ H' δ->Kp σ δ H H'->Ex C H')(rel1:Rel K F σ H1 δ)(kp1:Kp σ δ H H1)(q:ZQ (QfI (Av F σ δ) (ZD σ δ) H1) vs args)(ha:fD args R EX) :
  JF fr fD vs H1 Q λcv _ H2=>∃C,cv=.ref C/\Ex C H2:=by
 refine⟨Av F σ δ,ZD σ δ,args,R,EX,λa ha=>rel1.isl ha,λp hp=>⟨ZW hp,(Kp.refl rel1).2 p hp⟩,q,ha,λd hd v H' kq dv fr=>?_,λC hC H' kq=>⟨C,rfl,kx C hC H' (rel1.kp kq) (kp1.trans kq)⟩⟩;exact k d hd v H' (rel1.kp kq) (kp1.trans kq) (hm dv λz l e1 e2=>YX kp1 (fr z l e1 e2))
structure QFs (X:Cx) (es:List QL) (fs:List (Addr×DF)):Prop where h:PA X.nox es (λσ H Q=>Q (fs.map λp=>V.ref p.1) H)
theorem QtG:QFs X [] []:=⟨Zu⟩
theorem Qey{fs:List (Addr×DF)}{n:Str}{npos:Pos}(f:Addr)(fD:DF)(hg:Gl X.nox n)(hm:X.nox.mg n=some (.ref f))(hr:QFs X es fs)(hd:(n == ("__debug__" : Str))=false:=by decide):QFs X (.Name n npos::es) ((f,fD)::fs):=
 ⟨Qcq (X:=X.nox) (Qf8 (v:=.ref f) hg hm rfl hd) hr.h rfl⟩
def QtY(fs:List (Addr×DF))(wk:DE)(wa:DSl):DE:=λδ Q EX=>wk δ (λd=>match d with
 |.int i=>∃p,atI fs i=some p/\wa δ (λargs=>p.2 args Q EX) XF
 |_=>False) XF
theorem QrC{α β:Type}{xs:List α}{i:Int}{a:α}(g:α->β)(h:atI xs i=some a):atI (xs.map g) i=some (g a):=by
 unfold atI at h ⊢;rw[Qg];cases e:ixN xs.length i with
 |none=>rw[e] at h;cases h
 |some j=>rw[e] at h;show(xs.map g)[j]? = _;rw[Qz,show xs[j]? = some a from h];rfl
theorem Qnm{α:Type}{xs:List α}{i:Int}{a:α}(h:atI xs i=some a):a∈xs:=by
 unfold atI at h;cases e:ixN xs.length i with
 |none=>rw[e] at h;cases h
 |some j=>rw[e] at h;exact QM h
theorem QoA{w:DE}(h:QX .D X e w)(hs:swapsWith e none pos.line X.env=pure false:=by rfl):QSX X (.Expr e pos) (Qrs w):=by
 refine⟨PSX.imp (Rx.QlZ h.h hs) λD σ H Ex ⟨F,δ,DD,rel,hw,en⟩=>?_⟩;exact⟨F,δ,_,DD.ex,rel,hw,λd hd v H' r' kp vk=>(en.nx δ hd).2 H' r' kp,en.ex⟩
theorem Qoz{st:ZA}{w:DS}(h:QSX X st w):QSXs X [st] w:=⟨Rx.QlY h.h⟩
def Qxl(ks:Addr->Str->Prop)(w:DS):DS:=λD δ=>w { D with nx:=λδ'=>δ'=δ/\D.nx δ,ex:=λC=>∃wd,ks C wd/\Yp (.str wd)=true/\D.rt (.str wd) } δ
structure QH (X:Cx) (i:Nat) (hx:QL) (sp:Sp):Prop where h:∀e,PE (Rx.mkd X e) hx (λσ H Q=>(QfW (Qiu i) Qsd) σ H λvs H1=>sp vs H1 Q E0)
theorem QoV{i:Nat}{sp:Sp}{y:Str}{pos2:Pos}(G:Rx.FnM X.prog X.w X.K X.mg X.base 1 f fd ps sp)(hr:Room 1 X.A)(hm:X.mg x=some (.ref f))(hk:PySem.W.keepIn X.K (.ref f)=true)(hb:Binds X.K fd ps [])(hg:Gl X x:=by rfl)(hN:X.N[i]? = some y:=by rfl)(hv:Vis X.env.scope y:=by first | exact Q0 rfl | exact Q8 (Q0 rfl) | exact Q8 (Q8 rfl))(hd:(y == ("__debug__" : Str))=false:=by decide)(hcd:(y == ("__classdict__" : Str))=false:=by decide)(hdb:(x == ("__debug__" : Str))=false:=by decide) :
  QH X i (.Call (.Name x p) [.Name y pos2] [] pos) sp:=⟨λe=>Rx.Qmb (X:=Rx.mkd X e) G (Rx.Room.m hr e) hg hm hk hb (Qcq (X:=Rx.mkd X e) (pv (X:=Rx.mkd X e) i hN hv hd hcd) Zu rfl) hdb rfl rfl⟩
theorem Qsw{E:XK}{R:Addr}{i:Nat}{n r:Str}{body:List ZA}{hx:QL}{w:DS}{ks:Addr->Str->Prop}{sp:Sp}{np hp hpos pos:Pos}(hb:QSXs X body w)(hN:X.N.Nodup)(hm:X.mg r=some (.ref R))(hh:QH X i hx sp)
  (hk:∀{C:Addr}{wd:Str},ks C wd->∀{H1:Hp}{Q:VK}{σ:L2.St},i < σ.length->(∀H',Same H1 H'->Q (.str wd) H')->Rx.ByC X.K C R/\∀a,H1 a=none->(QfW (Qiu i) Qsd) (σ.set i (some (.ref a))) (upd H1 a (Rx.exO a C)) λvs H2=>sp vs H2 Q E0)
  (hstk:X.stack=X.env::X.outer:=by rfl)(hfr:X.env.frame=some X.env.locals:=by rfl)(hi:X.N[i]? = some n:=by rfl)(hl:X.env.scope.names.lookup n=some .local:=by rfl)(hg:Gl X r:=by rfl)(hd:(r == ("__debug__" : Str))=false:=by decide) :
  QS X E (.Try body [.ExceptHandler (some (.Name r np)) (some n) [.Return (some hx) hp] hpos] [] [] pos) (Qxl ks w):=by
 refine⟨λpins s σ H D I ⟨F,δ,DD,rel,hw,en⟩=>Rx.Qo2 hstk hfr hb.h hN hi hl hg hm hh.h hd pins s σ H D I ?_⟩;have hlen:i < σ.length:=by rw[I.len];exact(Qw.mp hi).1
 refine⟨F,δ,_,rel,hw,λδ' ⟨e1,h1⟩=>⟨e1,λH' r' kp=>en.nx.go δ h1 σ H' r' (Stp.kp kp)⟩,en.rt,en.rtF,λC ⟨wd,hks,cl,hr⟩ H' r' kp=>?_⟩;exact hk hks hlen λH2 s2=>en.rt _ hr _ H2 (r'.same s2).ke (.str wd cl)
end
end Dl
namespace Rx
open PySem.Calls L2 Rk Dl
def Qub(tP:Addr)(tq:Str)(X:Cx)(f:Addr)(sp:Sp):Prop:=∃k fd ps,FnOk X.prog X.w X.K X.mg X.base (CXE X.prog X.w) k f fd ps (spT tP tq sp)/\Room k X.A/\PySem.W.keepIn X.K (.ref f)=true/\Binds X.K fd ps []
section
variable{X:Cx}{tf:TE}{fe:QL}{pos:Pos}{e:QL}{es:List QL}{t:TA}{M:Addr->Sp->Prop}
theorem QhL{tP:Addr}{tq:Str}(hT:TH tP tq X.H₀)(hM:∀f sp,M f sp->Qub tP tq X f sp)(hf:PE X.nox fe tf)(hex:X.ex=[])
  (ha:PA X.nox (e::es) t)(hfe:eval (.Call fe (e::es) [] pos) X.env=(do callWith pos (<- eval fe X.env) [] (backTo pos (starEach (e::es) X.env)) (backToKw pos (keywordEach [] X.env))):=by rfl)
  (he:starEach (e::es) X.env=(false,eval e X.env)::starEach es X.env:=by rfl)(hpl:(backTo pos (starEach es X.env)).any (·.1)=false:=by rfl) :
  PEX X (.Call fe (e::es) [] pos) (Qoy M tf t):=by
 intro pins s σ H Q Ex I h;rw[hfe];refine wpAny_bind (wpAny_mono (hf pins s σ H _ (I.wish _) h) (λv s0 ⟨x,H0,J0,r0,q0⟩=>?_) λ_ _ z=>Jh z);obtain⟨f,sp,rfl,mf,q0⟩:=q0;obtain⟨k,fd,ps,F,hr,hk,hb⟩:=hM f sp mf;cases(show v=JG f from r0);have I0:Inv X pins σ H0 s0:=J0.unwish;refine PySem.W.callWith_K (h₀:=X.base) I.ok.mod.kin hk (wpAny_mono (ha pos pins s0 σ H0 _ (I0.wish _) q0) (λus s1 ⟨vs,H1,J1,r,q⟩=>?_) λ_ _ z=>Jh z) he hpl;have I1:Inv X pins σ H1 s1:=J1.unwish;refine⟨I1.kIn,?_⟩;have hl:us.length=ps.length:=by rw[<- r.length];exact F.len _ _ _ _ (show spT tP tq sp vs H1 Q _ from⟨I1.th hT,q⟩)
 have hbb:Qdi s1 fd ⟨us,[]⟩ (ps.zip us):=by
  have z:=hb s1 us I1.kIn (by rw[Zk];exact hl);rw[Zk] at z;exact z
 refine Qa3 (YT (F.run X.A X.stack s1 H1 ⟨us,[]⟩ us vs Q _ hr I1.env0 hbb r ⟨I1.th hT,q⟩) λr s2 hq=>?_);cases r with
 |error e=>
  obtain⟨C0,H2,⟨a,t',B,rfl,os,bare,fl,fa,fH,land⟩,C,eC,ex⟩:=hq;cases eC;refine⟨σ,C0,H2,a,t',B,rfl,fl,fH,?_,λp hp z=>?_,λh2 tk st up=>?_,rfl,ex⟩
  ·cases z:X.s₀.heap.get? a with
   |none=>rfl
   |some o=>
    obtain⟨o',e'⟩:=I1.base.there a o z (by rw[hex];simp);rw[fa] at e';cases e'
  ·have e':=(I1.pin p hp).1;rw[z,fa] at e';cases e'
  ·obtain⟨un,hok⟩:=land h2 st up;exact I1.call' (s':={ s2 with heap:=h2,toks:=tk }) (ch:=[]) os un hok bare (λb z=>absurd z (by simp))
 |ok fl=>
  cases fl with
  |ret u=>exact I1.after hq
  |next=>exact Jh hq
  |brk=>exact Jh hq
  |cont=>exact Jh hq
end
end Rx
namespace Dl
open PySem.Calls L2 _root_.Rd Rk
section
variable{X:Cx}{e:QL}{es:List QL}{wa:DSl}{pos:Pos}
theorem Qlv{tP:Addr}{tq:Str}(hT:TH tP tq X.H₀){fs:List (Addr×DF)}{ls:List QL}{ix:QL}{wk:DE}{lpos spos:Pos}(hl:QFs X ls fs)(hM:∀q∈fs,Rx.Qub tP tq X q.1 (JF false q.2))(hk:QE .P X.nox E0 ix wk)(ha:QAs X.nox E0 (e::es) wa)(hn:fs.length<=1000:=by simp)(hix:QeJ ix:=by exact λ_ _=>rfl)(hex:X.ex=[]:=by rfl)
  (hfe:eval (.Call (.Subscript (.List ls lpos) ix spos) (e::es) [] pos) X.env=(do callWith pos (<- eval (.Subscript (.List ls lpos) ix spos) X.env) [] (backTo pos (starEach (e::es) X.env)) (backToKw pos (keywordEach [] X.env))):=by rfl)
  (he:starEach (e::es) X.env=(false,eval e X.env)::starEach es X.env:=by rfl)(hpl:(backTo pos (starEach es X.env)).any (·.1)=false:=by rfl) :
  QX .D X (.Call (.Subscript (.List ls lpos) ix spos) (e::es) [] pos) (QtY fs wk wa):=by
 refine⟨PEX.imp (Rx.QhL hT (M:=λf sp=>∃q∈fs,f=q.1/\sp=JF false q.2) (λf sp ⟨q,hq,e1,e2⟩=>by rw[e1,e2];exact hM q hq) (QhM (X:=X.nox) Qb5 (Qag hl.h) hk.h hix) hex ha.h hfe he hpl) λσ H Q Ex ⟨F,δ,R,EX,rel,hw,k,kx⟩=>?_⟩;refine⟨by rw[Qg];exact hn,λl H0 s0 n0 e0=>⟨F,δ,_,XF,rel.same s0,hw,λd hd v H1 rel1 kp1 vk=>?_,Qiw⟩⟩;cases d<;>first | exact(show False from hd).elim | skip
 obtain⟨q,hq,hw2⟩:=hd;have npl:¬ZD σ δ l:=λz=>by obtain⟨xs,e⟩:=rel.isl (ZW (F:=F) z);rw[n0] at e;cases e
 refine⟨l,_,_,.ref q.1,rfl,DP.int vk,SqL.of (kp1.1 _ _ npl e0),QrC (λp:Addr×DF=>V.ref p.1) hq,q.1,_,rfl,⟨q,Qnm hq,rfl,rfl⟩,?_⟩;have K1:=(Kp.same rel s0).trans kp1;exact⟨F,δ,_,XF,rel1,hw2,λargs ha vs H2 rel2 kp2 qa=>QkX (m:=.D) (λh _=>h) k kx rel2 (K1.trans kp2) qa ha,Qiw⟩
end
section
variable{P:QD}{w:Je}{K:PySem.W.Frag}{mg:Str->Option Value}{base:JM}
theorem QvJ{x qual:Str}{st:ZA}{f tP:Addr}{tq:Str}{fd:Qy}{N ps:List Str}{k:Nat}{fD:DF}(fr:Bool)(F:Fun K x qual st f fd)(S:Jg N ps (Qk st))(len:∀args R EX,fD args R EX->args.length=ps.length)
  (hbody:∀(cdv:Value)(A:Q5)(outer:List Env)(s:Shared)(H:Hp)(E:XK),Room k (A.deeper (envOfC qual (Qk st) s.heap.objs.size f cdv))->TH tP tq H ->
   ∃wd,QSs (cxOf CX0 P w K mg base N qual (Qk st) f cdv A outer s H E).nox E0 (Jd st) wd/\∀args R EX,fD args R EX->wd (Qgk fr R XF) (stD N args)):FnOk P w K mg base CX0 (k+1) f fd ps (spT tP tq (JF fr fD)):=by
 refine F.ok S (λvs H Q E h=>?_) λcdv A outer s H vs Q E hr h=>?_
 ·obtain⟨_,A,pt,args,R,EX,_,_,q,h,_⟩:=h;rw[q.length];exact len _ _ _ h
 ·obtain⟨hT,A',pt,args,R,EX,dm,hpt,q,h,k,_⟩:=h;obtain⟨wd,hp,hw⟩:=hbody cdv A outer s H E hr hT;exact⟨_,hp.h,⟨H,A',pt⟩,_,_,Qbm dm hpt q,hw args R EX h,Qez (Ex:=E) (EX:=EX) k Qiw⟩
theorem QvL{x qual:Str}{st:ZA}{f c tP:Addr}{tq:Str}{fd:Qy}{N ps:List Str}{k:Nat}{fD:DF}(fr:Bool)(F:Fun K x qual st f fd)(hc:fd.code=.ref c)(S:Jg N ps (Qk st))(len:∀args R EX,fD args R EX->args.length=ps.length)
  (hbody:∀(A:Q5)(outer:List Env)(s:Shared)(H:Hp)(E:XK),Room k (A.deeper (envOfC qual (Qk st) s.heap.objs.size f (.ref c)))->TH tP tq H ->
   ∃wd,QSs (cxOf (Rx.CXE P w) P w K mg base N qual (Qk st) f (.ref c) A outer s H E) E (Jd st) wd/\∀args R EX,fD args R EX->wd (Qgk fr R EX) (stD N args)):FnOk P w K mg base (Rx.CXE P w) (k+1) f fd ps (spT tP tq (JF fr fD)):=by
 obtain⟨oc,od,kV,doc,pm,an,cdv,ct,osl,rfl,lk,hcd⟩:=F.ex;obtain rfl:cdv=.ref c:=hc;refine Qrh lk hcd S (λvs H Q E h=>?_) λA outer s H vs Q E hr h=>?_
 ·obtain⟨_,A,pt,args,R,EX,_,_,q,h,_⟩:=h;rw[q.length];exact len _ _ _ h
 ·obtain⟨hT,A',pt,args,R,EX,dm,hpt,q,h,k,kx⟩:=h;obtain⟨wd,hp,hw⟩:=hbody A outer s H E hr hT;exact⟨_,hp.h,⟨H,A',pt⟩,_,_,Qbm dm hpt q,hw args R EX h,Qez (Ex:=E) (EX:=EX) k λC hC H' ke=>kx C hC H' ke⟩
theorem FnOk.toT{CX:CXT}{k:Nat}{f tP:Addr}{tq:Str}{fd:Qy}{ps:List Str}{sp:Sp}(h:FnOk P w K mg base CX k f fd ps sp):FnOk P w K mg base CX k f fd ps (spT tP tq sp):=h.imp λ_ _ _ _ q=>q.2
end
end Dl
namespace L2
open PySem.Calls _root_.Rd _root_.Rk Dl
theorem Qjy{X:Cx}{tP:Addr}{tq:Str}(hT:TH tP tq X.H₀){M:List Str}{cap:List (Option Nat)}{elt tg iter:QL}{ifs:List QL}{scope:ZK}{pos:Pos}{wi:TI}{g:TG}{tc:TT}{te:TE}(hc:X.calm=true)(ok:Qca X.N X.env.scope M scope cap=true)
  (hi:PI X tg iter wi)(hb:∀cl ex s3 H3 C,TH tP tq H3->PG (blk X M scope cl ex s3 H3 C) tg g/\PTs (blk X M scope cl ex s3 H3 C) ifs tc/\PE (blk X M scope cl ex s3 H3 C) elt te)
  (hs:∀x,foldedSetIterable iter X.env x=pure x:=by intro _;rfl):PE X (.ListComp elt [⟨tg,iter,ifs,0⟩] scope pos) (tComp cap wi g tc te):=by
 intro pins s σ H Q I h;have c:=CapOk.of ok;rw[eval_ListComp];refine Yn (use:=none) rfl hs (QeD (I.ok.cells c)) c.kind c.loc ?_
 refine thn (hi pins s σ H _ I h) λv s1 h1=>thn h1 λitv s2 h2=>?_
 obtain⟨it,fp,tn,J,H2,e,I2,T,st2,f2,hW⟩:=h2;subst e;refine JD (Yf c.cell (by intro y hy;simp at hy) (λh₁ hns₁ hsb₁=>?_) c.kind);have I3:Inv X pins σ (upd H2 s2.heap.objs.size (.lst [])) { s2 with heap:=s2.heap.push { cls:=.type "list",data:=.seq ([]:List Value).toArray } }:=I2.lnew (t':=s2.toks) (ys:=[]) .nil (Jx _);have lt2:∀b∈fp,b<s2.heap.objs.size:=λb hb=>by obtain⟨o,e,_⟩:=T.obj _ _ st2 b hb;exact Qi e
 have f3:∀b∈fp,FpOk X pins (upd H2 s2.heap.objs.size (.lst [])) b:=λb hb=>(f2 b hb).upd (Qs (lt2 b hb))
 generalize hs3:({ s2 with heap:=s2.heap.push { cls:=.type "list",data:=.seq ([]:List Value).toArray } }:Shared)=s3 at I3;have e3:s3.heap=s2.heap.push { cls:=.type "list",data:=.seq ([]:List Value).toArray }:=by rw[<- hs3]
 have z3:s3.heap.objs.size=s2.heap.objs.size+1:=by rw[e3,Zd]
 have hk:∀b o,s3.heap.get? b=some o->h₁.get? b=some o:=λb o e=>hsb₁.extBut b o (by
  have:=Qi e;rw[e3] at this;exact Qs this) (Qd _ (e3 ▸ e))
 have hn₁:h₁.Ns s3.heap.objs.size λ_=>none:=by rw[e3];exact hns₁
 have B:=QbB (t4:=s3.toks+([]:List (Str×Value)).length) (fp:=fp) I3 c f3 (λb hb=>by rw[z3];exact Yy (lt2 b hb)) hn₁ hk;have st4:tn 0 h₁:=T.keep _ _ _ st2 λb hb o e=>hk b o (by rw[e3];exact Qd _ e)
 have fp4:∀b∈fp,FpOk (blk X M scope (Qap X.env scope.names []) fp s3 (upd H2 s2.heap.objs.size (.lst [])) s3.heap.objs.size) [] (upd H2 s2.heap.objs.size (.lst [])) b:=λb hb=>by
  refine⟨(f3 b hb).1,(B.ok.exf b hb).1,B.ok.exfs b hb,.inl hb,(B.ok.exf b hb).2,λp hp=>(nomatch hp)⟩
 obtain⟨hg,ht,he⟩:=hb (Qap X.env scope.names []) fp s3 (upd H2 s2.heap.objs.size (.lst [])) s3.heap.objs.size (I3.th hT);have loop:codeAny (model X.prog X.w) X.A (.compLoop (.ListComp elt [⟨tg,iter,ifs,0⟩] scope pos) 0 (.ref it) (.ref s2.heap.objs.size) (compEnvC scope (Qap X.env scope.names []) s3.heap.objs.size X.env))
   (compPost (model X.prog X.w) X.A X.xe none (EP X pins σ Q) (.ref s2.heap.objs.size) s3.heap.objs.size) { s3 with heap:=h₁,toks:=s3.toks+([]:List (Str×Value)).length }:=by
  refine QaG (Y:=blk X M scope (Qap X.env scope.names []) fp s3 (upd H2 s2.heap.objs.size (.lst [])) s3.heap.objs.size) (gens:=[⟨tg,iter,ifs,0⟩]) (d:=0) hc T st4 fp4
   (λQ E s h=>Qeb Q E s h) (λx u r=>Qda rfl hg ht (λσ4=>QcD rfl he) x u r) B (hW _ (I2.hok.fresh (Ql _))) λs' H' I' q=>?_
  obtain⟨m,hn,_⟩:=I'.loc;exact⟨m,hn,λh' hs'=>⟨.ref s2.heap.objs.size,H',Qgu I3 f3 I' hs',rfl,q⟩⟩
 exact YF loop (T.self _ 0 _ _ _ st4 loop)
end L2
namespace Dl
open L2 _root_.Rd Rk
section
variable{X:Cx}{E:XK}
theorem Qmu{tP:Addr}{tq:Str}(hT:TH tP tq X.H₀){M:List Str}{cap:List (Option Nat)}{elt tg iter:QL}{ifs:List QL}{scope:ZK}{pos:Pos}{ix:List Nat}{wi:DI}{wg:DG}{wt:DT}{we:DE}(hc:X.calm=true)(ok:Qca X.N X.env.scope M scope cap=true)(hf:Qai cap ix=true)
  (hi:PI X tg iter (tI .P X.K E wi))(hb:∀cl ex s3 H3 C,TH tP tq H3->PG (blk X M scope cl ex s3 H3 C) tg (tG ix X.K wg)/\PTs (blk X M scope cl ex s3 H3 C) ifs (tT X.K E0 wt)/\PE (blk X M scope cl ex s3 H3 C) elt (tX .D X.K E0 we))
  (hs:∀x,foldedSetIterable iter X.env x=pure x:=by intro _;rfl):PE X (.ListComp elt [⟨tg,iter,ifs,0⟩] scope pos) (tX .F X.K E (dComp cap wi wg wt we)):=by
 refine PE.imp (Qjy hT hc ok hi hb hs) λσ H Q ⟨F,δ,R,EX,rel,hw,k,o⟩=>?_
 refine⟨F,δ,_,EX,rel,hw,λitems hC J H1 rel1 kp1 ⟨ln,it⟩ p hp=>?_,o⟩;unfold QfH at hC;obtain⟨Iv,i0,step,fin⟩:=hC;have hpn:¬ZD σ δ p:=λz=>by obtain⟨xs,e⟩:=rel1.isl (ZW (F:=F) z);rw[hp] at e;cases e
 let A1:Addr->Prop:=λa=>Av F σ δ a∨a=p
 have hP:∀a,ZD σ δ a->A1 a:=λa z=>.inl (ZW z)
 have hN:∀a,A1 a->Av F σ δ a∨H1 a=none:=λa z=>z.elim .inl λz=>.inr (by rw[z];exact hp)
 have dmK:∀{H2:Hp},Kp σ δ H1 H2->(∃ys,H2 p=some (.lst ys))->∀a,A1 a->∃xs,H2 a=some (.lst xs):=λ{H2} k2 e2 a z=>by
  rcases z with z | z
  ·exact(rel1.kp k2).isl z
  ·rw[z];exact e2
 refine QcY items.length (λi H2=>i<=items.length/\∃acc,Iv i acc/\acc.length<=i/\Lp σ δ A1 p H1 H2 acc) ⟨Jx _,[],i0,Ql _,Kp.same rel1 (Jk hp),[],Jc,.nil⟩ (λi H2 hi ⟨_,acc,iv,hl,lp⟩=>?_) λH2 ⟨_,acc,iv,hl,lp⟩=>?_
 ·obtain⟨k2,ys,e2,q2⟩:=lp;obtain⟨go,_⟩:=it H2 A1 (λb o n e=>k2.1 b o n e) hN (dmK k2 ⟨ys,e2⟩);have hd:items[i]? = some items[i]:=Qm hi;obtain⟨g1,g2⟩:=go i _ hd;refine⟨g1,λx H3 y kk hk=>?_⟩;obtain⟨s3,dx⟩:=g2 x H3 y;have k23:=Kp.same (rel1.kp k2) s3;have lp3:Lp σ δ A1 p H1 H3 acc:=Lp.step hP hpn ⟨k2,ys,e2,q2⟩ k23;refine QfU hf rel1 (λa z=>.inl z) hN (dmK lp3.kp ⟨ys,s3 _ _ e2⟩) lp3.kp dx (step i acc _ hd iv) (λσ4 δ4 H5 h5 r5 k5 pots=>?_) λh5 H5 k5=>hk _ ⟨hi,acc,h5,by omega,lp3.step hP hpn k5⟩
  exact Qkz (.inr rfl) hP hp hpn (lp3.step hP hpn k5) (by omega) r5 pots h5 λe he H' lp'=>hk _ ⟨hi,acc++[e],he,by rw[QF];show _+1<=_;omega,lp'⟩
 ·obtain⟨k2,ys,e2,q2⟩:=lp;obtain⟨_,st⟩:=it H2 A1 (λb o n e=>k2.1 b o n e) hN (dmK k2 ⟨ys,e2⟩);refine⟨st,k _ (fin acc iv) (.ref p) H2 (rel1.kp k2) (kp1.trans k2) ⟨.lst (λz=>?_) e2 (q2.mv (λ_ _ _ e=>e) λa z=>.inl (.inl z)),λl e1 _=>?_⟩⟩
  ·obtain⟨xs,e⟩:=rel1.isl z;rw[hp] at e;cases e
  ·cases e1;exact YX kp1 hp
end
end Dl
namespace Dl
open PySem.Calls L2 _root_.Rd Rk
section
variable{X:Cx}{E:XK}
theorem QbV{tP:Addr}{tq:Str}(hT:TH tP tq X.H₀)(M:List Str)(cap:List (Option Nat)){elt tg iter:QL}{ifs:List QL}{scope:ZK}{pos:Pos}{ix:List Nat}{wi:DI}{wg:DG}{wt:DT}{we:DE}(hi:QI .P X E tg iter wi)(hb:∀cl ex s3 H3 C,TH tP tq H3->QG ix (blk X M scope cl ex s3 H3 C) tg wg/\QTs (blk X M scope cl ex s3 H3 C) E0 ifs wt/\QE .D (blk X M scope cl ex s3 H3 C) E0 elt we)(hc:X.calm=true:=by rfl)(ok:Qca X.N X.env.scope M scope cap=true:=by rfl)(hf:Qai cap ix=true:=by rfl)(hs:∀x,foldedSetIterable iter X.env x=pure x:=by intro _;rfl):QE .F X E (.ListComp elt [⟨tg,iter,ifs,0⟩] scope pos) (dComp cap wi wg wt we):=⟨Qmu hT hc ok hf hi.h (λcl ex s3 H3 C hz=>⟨(hb cl ex s3 H3 C hz).1.h,(hb cl ex s3 H3 C hz).2.1.h,(hb cl ex s3 H3 C hz).2.2.h⟩) hs⟩
end
end Dl
namespace Rt
section
variable{c:Y1->Y1->Bool}
end
structure SB (κ:QdZ) (a₀:Array Y1) (st:SortSt):Prop where
 perm:(arrOf st).Perm a₀
 kind:kindOf st=κ
 failed:failedOf st=none
theorem SB.size{κ:QdZ}{a₀:Array Y1}{st:SortSt}(h:SB κ a₀ st):(arrOf st).size=a₀.size:=h.perm.size_eq
section
variable{prog:QD}{w:Je}{A:Q5}{E:Value->Shared->Prop}{s:Shared}{a₀:Array Y1}{κ:QdZ}{c:Y1->Y1->Bool}
end
section
variable{c:Y1->Y1->Bool}
variable{a b r:Array Y1}{i j k:Nat}
end
structure Sm (st st':SortSt):Prop where
 kind:kindOf st'=kindOf st
 arr:arrOf st'=arrOf st
 pend:pendingOf st'=pendingOf st
 failed:failedOf st'=failedOf st
section
variable{prog:QD}{w:Je}{A:Q5}{E:Value->Shared->Prop}{s:Shared}{a₀:Array Y1}{κ:QdZ}{c:Y1->Y1->Bool}
end
section
variable{c:Y1->Y1->Bool}
variable{a b r:Array Y1}{i j t:Nat}
end
section
variable{prog:QD}{w:Je}{A:Q5}{E:Value->Shared->Prop}{s:Shared}{a₀:Array Y1}{κ:QdZ}{c:Y1->Y1->Bool}
end
section
variable{c:Y1->Y1->Bool}
end
section
variable{prog:QD}{w:Je}{A:Q5}{E:Value->Shared->Prop}{s:Shared}{a₀:Array Y1}{κ:QdZ}{c:Y1->Y1->Bool}
end
section
variable{prog:QD}{w:Je}{A:Q5}{E:Value->Shared->Prop}{s:Shared}{a₀:Array Y1}{κ:QdZ}{c:Y1->Y1->Bool}
end
end Rt
namespace Dl
open L2 _root_.Rd Rk
structure GOk (wg:DG):Prop where h:∀d δ Q,wg d δ Q->wg d δ λδ'=>(∀(j:Nat) x,δ'[j]? = some x->(∃e,x=.v e)∨δ[j]? = some x)/\Q δ'
theorem Qg6(i:Nat):GOk (gN i):=⟨λd δ Q h=>⟨λj x e=>by
 by_cases z:j=i
 ·subst z;exact .inl ⟨d,set_eq e⟩
 ·rw[Yw z] at e;exact .inr e,h⟩⟩
theorem Qku{cap:List (Option Nat)}{ix:List Nat}(hf:Qai cap ix=true){i:Nat}(hi:i∈ix):cap[i]? = some none:=by
 have:=J6.mp hf i hi;split at this
 ·assumption
 ·cases this
theorem QcB{cap:List (Option Nat)}{ix:List Nat}(hf:Qai cap ix=true){δ:Sts}{i:Nat}{x:Sl}(h:(QcC cap δ)[i]? = some x)(hx:x≠.no):i∉ix:=λz=>by
 rcases QeF h with⟨_,e⟩ | ⟨j,hj,_⟩
 ·exact hx e
 ·rw[Qku hf z] at hj;cases hj
section
variable{K:PySem.W.Frag}{σ σ4:L2.St}{δ δ4:Sts}{cap:List (Option Nat)}{ix:List Nat}{A1:Addr->Prop}{H3 H5 H6:Hp}
theorem Qn0(hP:∀a,ZD σ δ a->A1 a)(hf:Qai cap ix=true)(j4:∀j,j∉ix->σ4[j]? = (Qb9 cap σ)[j]?)(gk:∀(j:Nat) x,δ4[j]? = some x->(∃e,x=.v e)∨(QcC cap δ)[j]? = some x){a:Addr}(h:Av (inF A1 cap σ δ H3) σ4 δ4 a):A1 a:=by
 rcases h with z | ⟨i,h1,h2⟩
 ·exact z
 ·refine(Qg5 (cap:=cap) (H:=H3) hP).mp ?_
  rcases h2 with h2 | ⟨ds,h2⟩
  ·rcases gk i _ h2 with⟨e,z⟩ | z
   ·cases z
   ·exact .inr ⟨i,by rw[<- j4 i (QcB hf z (λz=>by cases z))];exact h1,.inl z⟩
  ·rcases gk i _ h2 with⟨e,z⟩ | z
   ·cases z
   ·exact .inr ⟨i,by rw[<- j4 i (QcB hf z (λz=>by cases z))];exact h1,.inr ⟨ds,z⟩⟩
theorem Qrd(hP:∀a,ZD σ δ a->A1 a)(hf:Qai cap ix=true)(j4:∀j,j∉ix->σ4[j]? = (Qb9 cap σ)[j]?)(gk:∀(j:Nat) x,δ4[j]? = some x->(∃e,x=.v e)∨(QcC cap δ)[j]? = some x)
  (ri:Rel K (inF A1 cap σ δ H6) (Qb9 cap σ) H6 (QcC cap δ))(r5:Rel K (inF A1 cap σ δ H3) σ4 H5 δ4)(kk:∀a o,¬A1 a->H5 a=some o->H6 a=some o):Rel K (inF A1 cap σ δ H6) σ4 H6 δ4 where
 len:=r5.len
 dom:=ri.dom
 dom0:=ri.dom0
 pt0:=ri.pt0
 kx:=ri.kx
 sl:=λi o x h1 h2=>by
  have iv:∀{a:Addr},Av (inF A1 cap σ δ H6) σ4 δ4 a->A1 a:=λ{a} z=>Qn0 hP hf j4 gk z
  rcases gk i x h2 with⟨d,rfl⟩ | hx
  ·obtain⟨v,e,q⟩:=r5.sl i o _ h1 h2;exact⟨v,e,q.mv (λa o n e=>kk a o (λz=>n (.inl z)) e) λa z=>.inl (.inl (iv z))⟩
  ·by_cases hn:x=.no
   ·subst hn;trivial
   ·have h1':(Qb9 cap σ)[i]? = some o:=by rw[<- j4 i (QcB hf hx hn)];exact h1
    have h:=ri.sl i o x h1' hx;cases x with
    |no=>trivial
    |v d=>obtain⟨v',e,q'⟩:=h;exact⟨v',e,q'.mv (λ_ _ _ e=>e) λa z=>.inl (.inl (iv z))⟩
    |own ds=>obtain⟨l,xs,e,e2,q',f⟩:=h;exact⟨l,xs,e,e2,q'.mv (λ_ _ _ e=>e) λa z=>.inl (.inl (iv z)),f⟩
    |pk ds=>obtain⟨l,xs,e,e2,q',f⟩:=h;exact⟨l,xs,e,e2,q'.mv (λ_ _ _ e=>e) λa z=>.inl (.inl (iv z)),f⟩
    |pot=>exact h
    |scr=>exact h
 inj:=λi j a ds h1 h2 _=>by
  rcases gk i _ h1 with⟨e,z⟩ | z
  ·cases z
  ·rcases QeF z with⟨_,e⟩ | ⟨j,hj,e⟩
   ·cases e
   ·exfalso
    cases e2:δ[j]? with
    |none=>rw[e2] at e;cases e
    |some y=>rw[e2] at e;cases y<;>cases e
end
theorem QlA{K:PySem.W.Frag}{F:Fm}{σ:L2.St}{δ:Sts}{H1 H3:Hp}{cap:List (Option Nat)}{ix:List Nat}{wg:DG}{wt:DT}{A1:Addr->Prop}{x:V}{d:PyData}{inner:L2.St->Hp->(Hp->Prop)->Prop}{kk:Hp->Prop}{T:Sts->Prop}{N:Prop}(gok:GOk wg)
  (hf:Qai cap ix=true)(rel:Rel K F σ H1 δ)(hA:∀a,Av F σ δ a->A1 a)(hN:∀a,A1 a->Av F σ δ a∨H1 a=none)(dm:∀a,A1 a->∃xs,H3 a=some (.lst xs))(kp:Kp σ δ H1 H3)(dx:DA A1 H3 x d)
  (h:wg d (QcC cap δ) λδ4=>wt δ4 (λb=>if b=true then T δ4 else N) XF)
  (hT:∀σ4 δ4 H5,T δ4->Rel K (inF A1 cap σ δ H3) σ4 H5 δ4->Kp σ δ H3 H5->(∀j,j∉ix->σ4[j]? = (Qb9 cap σ)[j]?)->σ4.length=(Qb9 cap σ).length->(∀(j:Nat) x,δ4[j]? = some x->(∃e,x=.v e)∨(QcC cap δ)[j]? = some x)->inner σ4 H5 kk)(hF:N->∀H5,Kp σ δ H3 H5->kk H5) :
  bOf (Qb9 cap σ) (tG ix K wg) (tT K E0 wt) inner x H3 kk:=by
 have ri:=Qko (cap:=cap) rel hA hN dm kp;have iv:∀{a:Addr},Av (inF A1 cap σ δ H3) (Qb9 cap σ) (QcC cap δ) a->A1 a:=λ{a}=>(Qg5 λa z=>hA a (ZW z)).mp
 refine⟨inF A1 cap σ δ H3,QcC cap δ,d,_,ri,dx.mv (λ_ _ _ e=>e) λa z=>.inl (iv z),gok.h _ _ _ h,λδ4 ⟨g4,h4⟩ σ4 r4 st4 l4 j4=>⟨Qn9 hf l4 j4,inF A1 cap σ δ H3,δ4,_,XF,r4,h4,λb hb H5 r5 kp5=>?_,Qiw⟩⟩;have pots:∀{b:Addr},ZD σ4 δ4 b->ZD σ δ b:=λz=>Qgi r4 (λb o _ e1 e2=>by rw[e2] at e1;cases e1) z
 have K5:Kp σ δ H3 H5:=by
  refine⟨λb o n e=>kp5.1 b o (λz=>n (pots z)) e,λb hb=>?_⟩;by_cases z:ZD σ4 δ4 b
  ·exact kp5.2 b z
  ·obtain⟨n,e⟩:=kp.2 b hb;exact⟨n,kp5.1 _ _ z e⟩
 exact QaY hb (λz=>hT σ4 δ4 H5 z r5 K5 j4 l4 g4) λz=>hF z H5 K5
theorem Qrm{K:PySem.W.Frag}{σ σ4:L2.St}{δ δ4:Sts}{H1 H3 H5:Hp}{cap:List (Option Nat)}{we:DE}{A1:Addr->Prop}{p:Addr}{acc:List PyData}{kk:Hp->Prop}{G:PyData->Prop}
  (hpA:A1 p)(hP:∀a,ZD σ δ a->A1 a)(hp1:H1 p=none)(hpn:¬ZD σ δ p)(lp:Lp σ δ A1 p H1 H5 acc)(hl:acc.length<sizeLine)(r5:Rel K (inF A1 cap σ δ H3) σ4 H5 δ4)(pots:∀b,ZD σ4 δ4 b->ZD σ δ b)
  (h:we δ4 G XF)(hk:∀e,G e->∀H',Lp σ δ A1 p H1 H' (acc++[e])->(∀b o,¬A1 b->H5 b=some o->H' b=some o)->kk H'):Qt5 p (tX .D K E0 we) σ4 H5 kk:=by
 refine⟨inF A1 cap σ δ H3,δ4,G,XF,r5,h,λe he v H6 r6 kp6 dv=>?_,Qiw⟩;have k56:Kp σ δ H5 H6:=by
  refine⟨λb o n e=>kp6.1 b o (λz=>n (pots b z)) e,λb hb=>?_⟩;by_cases z:ZD σ4 δ4 b
  ·exact kp6.2 b z
  ·obtain⟨n,e⟩:=lp.kp.2 b hb;exact⟨n,kp6.1 _ _ z e⟩
 obtain⟨k6,ys,e6,q6⟩:=lp.step hP hpn k56;have up:∀{b:Addr}{o:HO},¬A1 b->H6 b=some o->upd H6 p (.lst (ys++[v])) b=some o:=λ{b o} n e=>by rw[Jb (λz=>n (by rw[z];exact hpA))];exact e
 refine⟨ys,e6,by rw[q6.length];exact hl,hk e he _ ⟨⟨λb o n e=>?_,λb hb=>?_⟩,ys++[v],Jc,DAs.app (q6.mv (λ_ _=>up) λa z=>.inl z) (.cons (DA.mv dv (λa o n e=>up (λz=>n (.inl z)) e) λa z=>.inl (.inl z)) .nil)⟩ λb o n e=>up n (kp6.1 b o (λz=>n (hP b (pots b z))) e)⟩
 ·rw[Jb (λz=>by rw[z,hp1] at e;cases e)];exact k6.1 b o n e
 ·rw[Jb (λz=>hpn (by rw[<- z];exact hb))];exact k6.2 b hb
def QmZ:Nat:=1000000
@[irreducible] def InR(items2:List PyData)(wg2:DG)(wt2:DT)(we:DE)(δ4:Sts)(acc:List PyData)(N:List PyData->Prop):Prop:=∃Jv:Nat->List PyData->Prop,Jv 0 acc /\
 (∀(j:Nat) acc2 d2,items2[j]? = some d2->Jv j acc2->acc2.length<QmZ/\wg2 d2 δ4 λδ5=>wt2 δ5 (λb=>if b=true then we δ5 (λe=>Jv (j+1) (acc2++[e])) XF else Jv (j+1) acc2) XF)/\∀acc2,Jv items2.length acc2->N acc2
@[irreducible] def Qhl(items:List PyData)(wg:DG)(wt:DT)(wi2:DI)(wg2:DG)(wt2:DT)(we:DE)(δ:Sts)(Q:PyData->Prop):Prop:=∃Iv:Nat->List PyData->Prop,Iv 0 [] /\
 (∀(i:Nat) acc d,items[i]? = some d->Iv i acc->wg d δ λδ4=>wt δ4 (λb=>if b=true then wi2 δ4 (λitems2=>InR items2 wg2 wt2 we δ4 acc (Iv (i+1))) XF else Iv (i+1) acc) XF)/\∀acc,Iv items.length acc->Q (.list acc)
def QkH(cap:List (Option Nat))(wi:DI)(wg:DG)(wt:DT)(wi2:DI)(wg2:DG)(wt2:DT)(we:DE):DE:=λδ Q EX=>wi δ (λitems=>Qhl items wg wt wi2 wg2 wt2 we (QcC cap δ) Q) EX
section
variable{X:Cx}{E:XK}
theorem QmY:QmZ<=sizeLine:=QQ (by decide) Qkb
end
section
variable{X:Cx}{E:XK}
end
theorem QtD{items2:List PyData}{wg2:DG}{wt2:DT}{we:DE}{δ4:Sts}{acc:List PyData}{N:List PyData->Prop}(G:PyData->Option PyData)(hl:acc.length+items2.length<QmZ)
  (h:∀d∈items2,∀(k1:Prop)(k2:PyData->Prop),(G d=none->k1)->(∀e,G d=some e->k2 e)->wg2 d δ4 λδ5=>wt2 δ5 (λb=>if b=true then we δ5 k2 XF else k1) XF)(q:N (acc++items2.filterMap G)) :
  InR items2 wg2 wt2 we δ4 acc N:=by
 unfold InR;refine⟨λi acc2=>acc2=acc++(items2.take i).filterMap G,by simp,λi acc2 d hd e=>?_,λacc2 e=>by rw[e,ZM];exact q⟩;have e:acc2=acc++(items2.take i).filterMap G:=e;have hs:(items2.take (i+1)).filterMap G=(items2.take i).filterMap G++(G d).toList:=by
  rw[Zf,hd,Qio];cases e2:G d<;>simp[e2]
 refine⟨?_,h d (QM hd) _ _ (λe2=>?_) λe' e2=>?_⟩
 ·have:=List.length_filterMap_le G (items2.take i);have h2:(items2.take i).length<=items2.length:=by rw[YG];exact Qd5 _ _
  rw[e,QF];omega
 ·show acc2=acc++(items2.take (i+1)).filterMap G;rw[hs,e2,e];simp
 ·show acc2++[e']=acc++(items2.take (i+1)).filterMap G;rw[hs,e2,e];simp
theorem QtC{items2:List PyData}{wg2:DG}{we:DE}{δ4:Sts}{acc:List PyData}{N:List PyData->Prop}(G:PyData->PyData)(hl:acc.length+items2.length<QmZ)
  (h:∀d∈items2,∀(k2:PyData->Prop),k2 (G d)->wg2 d δ4 λδ5=>we δ5 k2 XF)(q:N (acc++items2.map G)):InR items2 wg2 QrR we δ4 acc N:=by
 refine QtD (λd=>some (G d)) hl (λd hd k1 k2 _ h2=>?_) (by rw[show items2.filterMap (λd=>some (G d))=items2.map G from by rw[<- List.filterMap_eq_map];rfl];exact q);have hh:=h d hd k2 (h2 _ rfl);simp only[QrR,if_true];exact hh
def Qjm:List V->Hp->VK->Prop:=λxs H Q=>∃l ns,xs=[.ref l]/\H l=some (.lst ((ns:List Int).map V.int))/\ns.length<64 /\
 ∀t ms H2,Same H H2->H t=none->H2 t=some (.lst ((ms:List Int).map V.int))->ms.Perm ns->ms.Pairwise (·<=·)->Q (.ref t) H2
section
open Rs PySem.W PySem.Calls
variable{X:Cx}
theorem Qgr:CallR X (.builtin "sorted") Qjm:=by
 intro pins s σ H xs us Q I r h;obtain⟨l,ns,rfl,hl,h64,q⟩:=h;obtain⟨u,rfl,ru⟩:=vals1 r;cases ru;obtain⟨hz,its,n,rv,ho⟩:=I.hok l _ hl;have li:=rv.length;rw[Qg] at li;refine Qch (.inl rfl) ho rfl rfl (by omega) λh' kp P E' hP=>?_
 have hn:(h'.push (seqObj "list" its.toArray 0)).get? h'.objs.size=some (seqObj "list" its.toArray 0):=Qp _ rfl;refine list_sort_tree (s:={ s with heap:=h'.push (seqObj "list" its.toArray 0) }) hn (Qew rv) (by omega) λout ns' ia pm pw=>hP _ ?_
 have I1:Inv X pins σ H { s with heap:=h' }:=I.kept (t':=s.toks) kp;have hf:H h'.objs.size=none:=I1.hok.fresh (Ql _);obtain⟨e,he⟩:∃e,(sortedHeap (h'.push (seqObj "list" its.toArray 0)) h'.objs.size its out).get? h'.objs.size=some (seqObj "list" out e):=sortedHeap_at hn
 have rv':=QeI ia;have lp:=pm.length_eq;have I2:Inv X pins σ (upd H h'.objs.size (.lst (ns'.map V.int))) { s with heap:=sortedHeap (h'.push (seqObj "list" its.toArray 0)) h'.objs.size its out }:=
  I1.laid (t':=s.toks) (λb x e'=>(sortedHeap_old (Qs (Qi e')) (Qt (Qi e') (by rw[size_push'];exact Nat.le_succ _))).trans (Qd _ e')) (Ql _) (show ObjOk X.prog X.w _ _ _ (.lst _) from⟨by rw[Qg];exact Ze (Rk.Qa7 (by omega)),out.toList,e,rv',by rw[he]⟩)
 exact⟨.ref h'.objs.size,_,I2,rfl,q _ ns' _ (Jk hf) hf Jc pm pw⟩
def QnI(K:PySem.W.Frag):List V->Hp->VK->Prop:=λxs H Q=>QnH K xs H Q∨Qjm xs H Q
theorem Qh9:CallR X (.builtin "sorted") (QnI X.K):=by
 intro pins s σ H xs us Q I r h;rcases h with h | h
 ·exact Qh8 pins s σ H xs us Q I r h
 ·exact Qgr pins s σ H xs us Q I r h
end
@[irreducible] def Qi5:List PyData->(PyData->Prop)->Prop
 |[.list ds],Q=>∃ns,Y9 ds=some ns/\ns.length<64/\∀ms:List Int,ms.Perm ns->ms.Pairwise (·<=·)->Q (.list (ms.map .int))
 |[.tuple ds],Q=>∃ns,Y9 ds=some ns/\ns.length<64/\∀ms:List Int,ms.Perm ns->ms.Pairwise (·<=·)->Q (.list (ms.map .int))
 |_,_=>False
theorem Qev{A:Addr->Prop}{H:Hp}:∀ms:List Int,DAs A H (ms.map V.int) (ms.map .int)
 |[]=>.nil
 |m::ms=>.cons (.int m) (Qev ms)
theorem Qrv{K:PySem.W.Frag}:Qay (QnI K) Qi5:=λA P H vs ds R Q ln dm q h k=>by
 unfold Qi5 at h;split at h
 ·obtain⟨v,rfl,hv⟩:=pd1 q;obtain⟨bs,hb,h64,hR⟩:=h;rw[Qb7 hb] at hv;obtain⟨l,xs,rfl,e,qq⟩:=hv.list;rw[QaM qq] at e;exact .inr ⟨l,bs,rfl,e,h64,λt ms H2 s n e2 pm pw=>k _ (hR ms pm pw) _ H2 s (Qcj dm s n e2 (Qev ms)) (YY n)⟩
 ·obtain⟨v,rfl,hv⟩:=pd1 q;obtain⟨bs,hb,h64,hR⟩:=h;rw[Qb7 hb] at hv;obtain⟨l,xs,rfl,e,qq⟩:=hv.tuple;rw[QaM qq] at e;exact .inl ⟨l,bs,rfl,SqT.of e,h64,λt ms H2 s n e2 pm pw=>k _ (hR ms pm pw) _ H2 s (Qcj dm s n e2 (Qev ms)) (YY n)⟩
 ·exact h.elim
theorem QoC{ds:List PyData}{Q:PyData->Prop}{ns:List Int}(h:Y9 ds=some ns)(h64:ns.length<64)(k:∀ms:List Int,ms.Perm ns->ms.Pairwise (·<=·)->Q (.list (ms.map .int))):Qi5 [.list ds] Q/\Qi5 [.tuple ds] Q:=by
 unfold Qi5;exact⟨⟨ns,h,h64,k⟩,ns,h,h64,k⟩
def Qxm(a b:DI):DI:=λδ R EX=>a δ R EX∨b δ R EX
theorem Qvt{X:Cx}{E:XK}{m:Md}{tg e:QL}{a b:DI}(h:QI m X E tg e a)(h':QI m X E tg e b):QI m X E tg e (Qxm a b):=⟨λpins s σ H R I ⟨F,δ,R',EX,rel,hw,k,o⟩=>by
 rcases hw with hw | hw
 ·exact h.h pins s σ H R I ⟨F,δ,R',EX,rel,hw,k,o⟩
 ·exact h'.h pins s σ H R I ⟨F,δ,R',EX,rel,hw,k,o⟩⟩
end Dl
namespace PySem
namespace AutoSeq1
open PyProof
end AutoSeq1
end PySem
namespace L2
end L2
namespace Dl
open L2 _root_.Rd Rk
section
variable{X:Cx}{E:XK}
end
theorem QkL{K:PySem.W.Frag}{E:XK}{cap:List (Option Nat)}{ix:List Nat}{wi:DI}{wg:DG}{wt:DT}{we:DE}(hf:Qai cap ix=true)(σ:L2.St)(H:Hp)(Q:VK)(h:tX .F K E (dComp cap wi wg wt we) σ H Q) :
  tComp cap (tI .P K E wi) (tG ix K wg) (tT K E0 wt) (tX .D K E0 we) σ H Q:=by
 obtain⟨F,δ,R,EX,rel,hw,k,o⟩:=h;refine⟨F,δ,_,EX,rel,hw,λitems hC J H1 rel1 kp1 ⟨ln,it⟩ p hp=>?_,o⟩;unfold QfH at hC;obtain⟨Iv,i0,step,fin⟩:=hC;have hpn:¬ZD σ δ p:=λz=>by obtain⟨xs,e⟩:=rel1.isl (ZW (F:=F) z);rw[hp] at e;cases e
 let A1:Addr->Prop:=λa=>Av F σ δ a∨a=p
 have hP:∀a,ZD σ δ a->A1 a:=λa z=>.inl (ZW z)
 have hN:∀a,A1 a->Av F σ δ a∨H1 a=none:=λa z=>z.elim .inl λz=>.inr (by rw[z];exact hp)
 have dmK:∀{H2:Hp},Kp σ δ H1 H2->(∃ys,H2 p=some (.lst ys))->∀a,A1 a->∃xs,H2 a=some (.lst xs):=λ{H2} k2 e2 a z=>by
  rcases z with z | z
  ·exact(rel1.kp k2).isl z
  ·rw[z];exact e2
 refine QcY items.length (λi H2=>i<=items.length/\∃acc,Iv i acc/\acc.length<=i/\Lp σ δ A1 p H1 H2 acc) ⟨Jx _,[],i0,Ql _,Kp.same rel1 (Jk hp),[],Jc,.nil⟩ (λi H2 hi ⟨_,acc,iv,hl,lp⟩=>?_) λH2 ⟨_,acc,iv,hl,lp⟩=>?_
 ·obtain⟨k2,ys,e2,q2⟩:=lp;obtain⟨go,_⟩:=it H2 A1 (λb o n e=>k2.1 b o n e) hN (dmK k2 ⟨ys,e2⟩);have hd:items[i]? = some items[i]:=Qm hi;obtain⟨g1,g2⟩:=go i _ hd;refine⟨g1,λx H3 y kk hk=>?_⟩;obtain⟨s3,dx⟩:=g2 x H3 y;have k23:=Kp.same (rel1.kp k2) s3;have lp3:Lp σ δ A1 p H1 H3 acc:=Lp.step hP hpn ⟨k2,ys,e2,q2⟩ k23;refine QfU hf rel1 (λa z=>.inl z) hN (dmK lp3.kp ⟨ys,s3 _ _ e2⟩) lp3.kp dx (step i acc _ hd iv) (λσ4 δ4 H5 h5 r5 k5 pots=>?_) λh5 H5 k5=>hk _ ⟨hi,acc,h5,by omega,lp3.step hP hpn k5⟩
  exact Qkz (.inr rfl) hP hp hpn (lp3.step hP hpn k5) (by omega) r5 pots h5 λe he H' lp'=>hk _ ⟨hi,acc++[e],he,by rw[QF];show _+1<=_;omega,lp'⟩
 ·obtain⟨k2,ys,e2,q2⟩:=lp;obtain⟨_,st⟩:=it H2 A1 (λb o n e=>k2.1 b o n e) hN (dmK k2 ⟨ys,e2⟩);refine⟨st,k _ (fin acc iv) (.ref p) H2 (rel1.kp k2) (kp1.trans k2) ⟨.lst (λz=>?_) e2 (q2.mv (λ_ _ _ e=>e) λa z=>.inl (.inl z)),λl e1 _=>?_⟩⟩
  ·obtain⟨xs,e⟩:=rel1.isl z;rw[hp] at e;cases e
  ·cases e1;exact YX kp1 hp
theorem QwA{K:PySem.W.Frag}{E:XK}{w:DE}(σ:L2.St)(H:Hp)(Q:VK)(h:tX .D K E w σ H Q):tX .F K E w σ H Q:=by
 obtain⟨F,δ,R,EX,rel,hw,k,o⟩:=h;exact⟨F,δ,R,EX,rel,hw,λd hd v H' r kp vk=>k d hd v H' r kp vk.1,o⟩
section
variable{X:Cx}{E:XK}
theorem Qf5(M:List Str)(cap:List (Option Nat))(i:Nat){elt tg iter:QL}{ifs:List QL}{scope:ZK}{pos py spos:Pos}{y:Str}{ix:List Nat}{wi:DI}{wg:DG}{wt:DT}{we:DE}(hN:X.N.Nodup)(hi:QI .P X E tg iter wi)(hb:∀cl ex s3 H3 C,QG ix (blk X M scope cl ex s3 H3 C) tg wg/\QTs (blk X M scope cl ex s3 H3 C) E0 ifs wt/\QE .D (blk X M scope cl ex s3 H3 C) E0 elt we)(hiy:X.N[i]? = some y:=by rfl)(hly:X.env.scope.names.lookup y=some .local:=by rfl)(hc:X.calm=true:=by rfl)(ok:Qca X.N X.env.scope M scope cap=true:=by rfl)(hf:Qai cap ix=true:=by rfl)(hs:∀x,foldedSetIterable iter X.env x=pure x:=by intro _;rfl)(hsw:swapsWith (.ListComp elt [⟨tg,iter,ifs,0⟩] scope pos) (some (.Name y py)) spos.line X.env=pure true:=by rfl):QS X E (.Assign [.Name y py] (.ListComp elt [⟨tg,iter,ifs,0⟩] scope pos) spos) (QuB i (dComp cap wi wg wt we)):=
 ⟨Qf9 (PS.imp (PS.imp (Ql1 hN hiy hly hc ok hi.h (λcl ex s3 H3 C=>⟨(hb cl ex s3 H3 C).1.h,(hb cl ex s3 H3 C).2.1.h,(hb cl ex s3 H3 C).2.2.h⟩) hs hsw) λD σ H q=>QkL (E:=E) hf σ H _ q) λD σ H q=>QwA σ H _ q)⟩
end
theorem QdS{K:PySem.W.Frag}{E:XK}{cap:List (Option Nat)}{ix ix2:List Nat}{wi wi2:DI}{wg wg2:DG}{wt wt2:DT}{we:DE}(gok:GOk wg)(hf:Qai cap ix=true)(hf2:Qai cap ix2=true)(hd:ix2.all (λi => !ix.contains i)=true)(σ:L2.St)(H:Hp)(Q:VK)(h:tX .F K E (QkH cap wi wg wt wi2 wg2 wt2 we) σ H Q) :
  QnB cap (tI .P K E wi) (tG ix K wg) (tT K E0 wt) (tI .D K E0 wi2) (tG ix2 K wg2) (tT K E0 wt2) (tX .D K E0 we) σ H Q:=by
 obtain⟨F,δ,R,EX,rel,hw,k,o⟩:=h;refine⟨F,δ,_,EX,rel,hw,λitems hC J H1 rel1 kp1 ⟨ln,it⟩ p hp=>?_,o⟩;unfold Qhl at hC;obtain⟨Iv,i0,step,fin⟩:=hC;have hpn:¬ZD σ δ p:=λz=>by obtain⟨xs,e⟩:=rel1.isl (ZW (F:=F) z);rw[hp] at e;cases e
 let A1:Addr->Prop:=λa=>Av F σ δ a∨a=p
 have hP:∀a,ZD σ δ a->A1 a:=λa z=>.inl (ZW z)
 have hN:∀a,A1 a->Av F σ δ a∨H1 a=none:=λa z=>z.elim .inl λz=>.inr (by rw[z];exact hp)
 have dmK:∀{H2:Hp},Kp σ δ H1 H2->(∃ys,H2 p=some (.lst ys))->∀a,A1 a->∃xs,H2 a=some (.lst xs):=λ{H2} k2 e2 a z=>by
  rcases z with z | z
  ·exact(rel1.kp k2).isl z
  ·rw[z];exact e2
 refine QcY items.length (λi H2=>i<=items.length/\∃acc,Iv i acc/\Lp σ δ A1 p H1 H2 acc) ⟨Jx _,[],i0,Kp.same rel1 (Jk hp),[],Jc,.nil⟩ (λi H2 hi ⟨_,acc,iv,lp⟩=>?_) λH2 ⟨_,acc,iv,lp⟩=>?_
 ·obtain⟨k2,ys,e2,q2⟩:=lp;obtain⟨go,_⟩:=it H2 A1 (λb o n e=>k2.1 b o n e) hN (dmK k2 ⟨ys,e2⟩);have hd':items[i]? = some items[i]:=Qm hi;obtain⟨g1,g2⟩:=go i _ hd';refine⟨g1,λx H3 y kk hk=>?_⟩;obtain⟨s3,dx⟩:=g2 x H3 y;have k23:=Kp.same (rel1.kp k2) s3;have lp3:Lp σ δ A1 p H1 H3 acc:=Lp.step hP hpn ⟨k2,ys,e2,q2⟩ k23;refine QlA gok hf rel1 (λa z=>.inl z) hN (dmK lp3.kp ⟨ys,s3 _ _ e2⟩) lp3.kp dx (step i acc _ hd' iv) (λσ4 δ4 H5 h5 r5 k5 j4 l4 g4=>?_) λh5 H5 k5=>hk _ ⟨hi,acc,h5,lp3.step hP hpn k5⟩
  have av4:∀{H:Hp}{a:Addr},Av (inF A1 cap σ δ H) σ4 δ4 a->A1 a:=λ{H a} z=>Qn0 hP hf j4 g4 z
  refine⟨inF A1 cap σ δ H3,δ4,_,XF,r5,h5,λitems2 hJ J2 H7 rel7 kp7 ⟨ln2,it2⟩=>?_,Qiw⟩;unfold InR at hJ;obtain⟨Jv,z0,step2,fin2⟩:=hJ;have pots4:∀{b:Addr},ZD σ4 δ4 b->ZD σ δ b:=λ{b} z=>by
   obtain⟨j,z1,z2⟩:=z;rcases g4 j _ z2 with⟨e,z⟩ | z
   ·cases z
   ·exact Qa9 ⟨j,by rw[<- j4 j (QcB hf z (λz=>by cases z))];exact z1,z⟩
  have k57:Kp σ δ H5 H7:=by
   refine⟨λb o n e=>kp7.1 b o (λz=>n (pots4 z)) e,λb hb=>?_⟩;by_cases z:ZD σ4 δ4 b
   ·exact kp7.2 b z
   ·obtain⟨n,e⟩:=k5.2 b hb;exact⟨n,kp7.1 _ _ z e⟩
  refine QcY items2.length (λj H8=>j<=items2.length/\∃acc2,Jv j acc2/\Lp σ δ A1 p H1 H8 acc2/\∀b o,¬A1 b->H7 b=some o->H8 b=some o) ⟨Jx _,acc,z0,(lp3.step hP hpn k5).step hP hpn k57,λ_ _ _ e=>e⟩ (λj H8 hj ⟨_,acc2,jv,lp8,s78⟩=>?_) λH8 ⟨_,acc2,jv,lp8,s78⟩=>?_
  ·obtain⟨ys8,e8,q8⟩:=lp8.at_;obtain⟨go2,_⟩:=it2 H8 A1 (λb o n e=>s78 b o (λz=>n (.inl z)) e) (λb z=>.inl (.inl z)) (dmK lp8.kp ⟨ys8,e8⟩);have hd2:items2[j]? = some items2[j]:=Qm hj;obtain⟨g3,g5⟩:=go2 j _ hd2;refine⟨g3,λx2 H9 y2 kk2 hk2=>?_⟩;obtain⟨s9,dx2⟩:=g5 x2 H9 y2;have k89:=Kp.same (rel1.kp lp8.kp) s9;have lp9:Lp σ δ A1 p H1 H9 acc2:=lp8.step hP hpn k89;have ri:=Qko (cap:=cap) rel1 (λa z=>.inl z) hN (dmK lp9.kp ⟨ys8,s9 _ _ e8⟩) lp9.kp;have r9:=Qrd hP hf j4 g4 ri r5 λa o n e=>s9 _ _ (s78 a o n (k57.1 a o (λz=>n (hP a z)) e))
   obtain⟨hl2,hw2⟩:=step2 j acc2 _ hd2 jv;refine⟨inF A1 cap σ δ H9,δ4,_,_,r9,dx2.mv (λ_ _ _ e=>e) λa z=>.inl (av4 z),hw2,λδ5 h6 σ5 r10 st5 l5 j5=>⟨Qlw l5 λi v e=>?_,inF A1 cap σ δ H9,δ5,_,XF,r10,h6,λb hb H10 r11 kp11=>?_,Qiw⟩⟩
   ·by_cases z:i∈ix2
    ·have n1:i∉ix:=λz2=>by
      have:=J6.mp hd i z;simp[z2] at this
     rw[j4 i n1] at e;rcases QeE e with⟨_,e2⟩ | ⟨j,hj2,_⟩
     ·cases e2
     ·rw[Qku hf2 z] at hj2;cases hj2
    ·rw[j5 i z];exact e
   ·have pots:∀{b:Addr},ZD σ5 δ5 b->ZD σ δ b:=λz=>Qgi r10 (λb o _ e1 e2=>by rw[e2] at e1;cases e1) z
    have K10:Kp σ δ H9 H10:=by
     refine⟨λb o n e=>kp11.1 b o (λz=>n (pots z)) e,λb hb=>?_⟩;by_cases z:ZD σ5 δ5 b
     ·exact kp11.2 b z
     ·obtain⟨n,e⟩:=lp9.kp.2 b hb;exact⟨n,kp11.1 _ _ z e⟩
    have s710:∀b o,¬A1 b->H7 b=some o->H10 b=some o:=λb o n e=>K10.1 b o (λz=>n (hP b z)) (s9 _ _ (s78 b o n e))
    refine QaY hb (λz=>?_) λz=>hk2 _ ⟨hj,acc2,z,lp9.step hP hpn K10,s710⟩
    exact Qrm (.inr rfl) hP hp hpn (lp9.step hP hpn K10) (Qt hl2 QmY) r11 (λb=>pots) z λe he H' lp' kk'=>hk2 _ ⟨hj,acc2++[e],he,lp',λb o n e=>kk' b o n (s710 b o n e)⟩
  ·obtain⟨ys8,e8,q8⟩:=lp8.at_;obtain⟨_,st2⟩:=it2 H8 A1 (λb o n e=>s78 b o (λz=>n (.inl z)) e) (λb z=>.inl (.inl z)) (dmK lp8.kp ⟨ys8,e8⟩);exact⟨st2,hk _ ⟨hi,acc2,fin2 acc2 jv,lp8⟩⟩
 ·obtain⟨k2,ys,e2,q2⟩:=lp;obtain⟨_,st⟩:=it H2 A1 (λb o n e=>k2.1 b o n e) hN (dmK k2 ⟨ys,e2⟩);refine⟨st,k _ (fin acc iv) (.ref p) H2 (rel1.kp k2) (kp1.trans k2) ⟨.lst (λz=>?_) e2 (q2.mv (λ_ _ _ e=>e) λa z=>.inl (.inl z)),λl e1 _=>?_⟩⟩
  ·obtain⟨xs,e⟩:=rel1.isl z;rw[hp] at e;cases e
  ·cases e1;exact YX kp1 hp
section
variable{X:Cx}{E:XK}
theorem Qjp(M:List Str)(cap:List (Option Nat))(i:Nat){elt tg iter tg2 iter2:QL}{ifs ifs2:List QL}{scope:ZK}{pos py spos:Pos}{y:Str}{ix ix2:List Nat}{wi wi2:DI}{wg wg2:DG}{wt wt2:DT}{we:DE}(hN:X.N.Nodup)(gok:GOk wg)(hi:QI .P X E tg iter wi)(hb:∀cl ex s3 H3 C,QG ix (blk X M scope cl ex s3 H3 C) tg wg/\QTs (blk X M scope cl ex s3 H3 C) E0 ifs wt/\QI .D (blk X M scope cl ex s3 H3 C) E0 tg2 iter2 wi2/\QG ix2 (blk X M scope cl ex s3 H3 C) tg2 wg2/\QTs (blk X M scope cl ex s3 H3 C) E0 ifs2 wt2/\QE .D (blk X M scope cl ex s3 H3 C) E0 elt we)(hiy:X.N[i]? = some y:=by rfl)(hly:X.env.scope.names.lookup y=some .local:=by rfl)(hc:X.calm=true:=by rfl)(ok:Qca X.N X.env.scope M scope cap=true:=by rfl)(hf:Qai cap ix=true:=by rfl)(hf2:Qai cap ix2=true:=by rfl)(hd:ix2.all (λi => !ix.contains i)=true:=by rfl)(hs:∀x,foldedSetIterable iter X.env x=pure x:=by intro _;rfl)(hs2:∀env x,foldedSetIterable iter2 env x=pure x:=by intro _ _;rfl)(hsw:swapsWith (.ListComp elt [⟨tg,iter,ifs,0⟩,⟨tg2,iter2,ifs2,0⟩] scope pos) (some (.Name y py)) spos.line X.env=pure true:=by rfl):QS X E (.Assign [.Name y py] (.ListComp elt [⟨tg,iter,ifs,0⟩,⟨tg2,iter2,ifs2,0⟩] scope pos) spos) (Qro i (QkH cap wi wg wt wi2 wg2 wt2 we)):=
 ⟨QgX (PS.imp (Qe8 hN hiy hly hc ok hi.h (λcl ex s3 H3 C=>⟨(hb cl ex s3 H3 C).1.h,(hb cl ex s3 H3 C).2.1.h,(hb cl ex s3 H3 C).2.2.1.h,(hb cl ex s3 H3 C).2.2.2.1.h,(hb cl ex s3 H3 C).2.2.2.2.1.h,(hb cl ex s3 H3 C).2.2.2.2.2.h⟩) hs hs2 hsw) λD σ H q=>QdS (E:=E) gok hf hf2 hd σ H _ q)⟩
theorem QlT(M:List Str)(cap:List (Option Nat))(i:Nat){elt tg iter tg2 iter2:QL}{ifs ifs2:List QL}{scope:ZK}{pos py spos:Pos}{y:Str}{ix ix2:List Nat}{wi wi2:DI}{wg wg2:DG}{wt wt2:DT}{we:DE}(hN:X.N.Nodup)(gok:GOk wg)(hi:QI .P X E tg iter wi)(hb:∀cl ex s3 H3 C,QG ix (blk X M scope cl ex s3 H3 C) tg wg/\QTs (blk X M scope cl ex s3 H3 C) E0 ifs wt/\QI .D (blk X M scope cl ex s3 H3 C) E0 tg2 iter2 wi2/\QG ix2 (blk X M scope cl ex s3 H3 C) tg2 wg2/\QTs (blk X M scope cl ex s3 H3 C) E0 ifs2 wt2/\QE .D (blk X M scope cl ex s3 H3 C) E0 elt we)(hiy:X.N[i]? = some y:=by rfl)(hly:X.env.scope.names.lookup y=some .local:=by rfl)(hc:X.calm=true:=by rfl)(ok:Qca X.N X.env.scope M scope cap=true:=by rfl)(hf:Qai cap ix=true:=by rfl)(hf2:Qai cap ix2=true:=by rfl)(hd:ix2.all (λi => !ix.contains i)=true:=by rfl)(hs:∀x,foldedSetIterable iter X.env x=pure x:=by intro _;rfl)(hs2:∀env x,foldedSetIterable iter2 env x=pure x:=by intro _ _;rfl)(hsw:swapsWith (.ListComp elt [⟨tg,iter,ifs,0⟩,⟨tg2,iter2,ifs2,0⟩] scope pos) (some (.Name y py)) spos.line X.env=pure true:=by rfl):QS X E (.Assign [.Name y py] (.ListComp elt [⟨tg,iter,ifs,0⟩,⟨tg2,iter2,ifs2,0⟩] scope pos) spos) (QuB i (QkH cap wi wg wt wi2 wg2 wt2 we)):=
 ⟨Qf9 (PS.imp (PS.imp (Qe8 hN hiy hly hc ok hi.h (λcl ex s3 H3 C=>⟨(hb cl ex s3 H3 C).1.h,(hb cl ex s3 H3 C).2.1.h,(hb cl ex s3 H3 C).2.2.1.h,(hb cl ex s3 H3 C).2.2.2.1.h,(hb cl ex s3 H3 C).2.2.2.2.1.h,(hb cl ex s3 H3 C).2.2.2.2.2.h⟩) hs hs2 hsw) λD σ H q=>QdS (E:=E) gok hf hf2 hd σ H _ q) λD σ H q=>QwA σ H _ q)⟩
end
theorem Qj1(L:List (Int×Int)):nds (L.map Rk.pairD)=true:=Qj2.mpr λd hd=>by
 obtain⟨i,_,rfl⟩:=QU.mp hd;rfl
def rkD:PyData->Nat
 |.int _=>0
 |.tuple _=>1
 |_=>2
def Qt0(i j:Int):Ordering:=if i<j then .lt else if i=j then .eq else .gt
def Qxn(i j:Nat):Ordering:=if i<j then .lt else if i=j then .eq else .gt
def thn(o:Ordering)(p:Ordering):Ordering:=match o with
 |.eq=>p
 |o=>o
mutual
def QrS:PyData->PyData->Ordering
 |.int i,.int j=>Qt0 i j
 |.tuple a,.tuple b=>Qh7 a b
 |x,y=>Qxn (rkD x) (rkD y)
def Qh7:List PyData->List PyData->Ordering
 |[],[]=>.eq
 |[],_::_=>.lt
 |_::_,[]=>.gt
 |x::xs,y::ys=>thn (QrS x y) (Qh7 xs ys)
end
def isL:Ordering->Bool
 |.lt=>true
 |_=>false
def ltD(x y:PyData):Bool:=isL (QrS x y)
def Qtq(x y:List PyData):Bool:=isL (Qh7 x y)
mutual
def Qli:PyData->PyData->Bool
 |.int _,.int _=>true
 |.tuple a,.tuple b=>Qgn a b
 |_,_=>false
def Qgn:List PyData->List PyData->Bool
 |x::xs,y::ys=>Qli x y&&Qgn xs ys
 |_,_=>true
end
def isE:Ordering->Bool
 |.eq=>true
 |_=>false
theorem Qra(a b:Ordering):isE (thn a b)=(isE a&&isE b):=by cases a<;>rfl
mutual
theorem Qn2:∀(x y:PyData),Qli x y=true->Jo x y=isE (QrS x y)
 |.int i,.int j,_=>by
  show(i == j)=isE (Qt0 i j);unfold Qt0;by_cases h:i=j
  ·subst h;simp[isE]
  ·rw[beq_eq_false_iff_ne.mpr h];split
   ·rfl
   ·rfl
 |.tuple a,.tuple b,h=>Qky a b h
 |.int _,.tuple _,h=>by cases h
 |.tuple _,.int _,h=>by cases h
 |.int _,.none,h=>by cases h
 |.int _,.bool _,h=>by cases h
 |.int _,.str _,h=>by cases h
 |.int _,.list _,h=>by cases h
 |.int _,.dict _,h=>by cases h
 |.tuple _,.none,h=>by cases h
 |.tuple _,.bool _,h=>by cases h
 |.tuple _,.str _,h=>by cases h
 |.tuple _,.list _,h=>by cases h
 |.tuple _,.dict _,h=>by cases h
 |.none,y,h=>by cases y<;>cases h
 |.bool _,y,h=>by cases y<;>cases h
 |.str _,y,h=>by cases y<;>cases h
 |.list _,y,h=>by cases y<;>cases h
 |.dict _,y,h=>by cases y<;>cases h
theorem Qky:∀(xs ys:List PyData),Qgn xs ys=true->QrH xs ys=isE (Qh7 xs ys)
 |[],[],_=>rfl
 |[],_::_,_=>rfl
 |_::_,[],_=>rfl
 |x::xs,y::ys,h=>by
  have h:=QC.mp (show(Qli x y&&Qgn xs ys)=true from h);show(Jo x y&&QrH xs ys)=isE (thn (QrS x y) (Qh7 xs ys));rw[Qn2 x y h.1,Qky xs ys h.2,Qra]
end
end Dl
namespace Rt
open PySem.Calls Dl
theorem Qfp:∀{ds:List PyData}{d:PyData},d∈ds->d.depth<=JQ ds
 |x::ds,d,h=>by
  show d.depth<=max x.depth (JQ ds);rcases Qx.mp h with z | z
  ·subst z;exact Nat.le_max_left _ _
  ·exact QQ (Qfp z) (QrK _ _)
theorem readsAll_len{h:JM}:∀{vs:List Value}{ds:List PyData}{as:List Addr},Qcr h vs ds as->vs.length=ds.length
 |_,_,_,.nil=>rfl
 |_,_,_,.cons _ r=>by rw[Q4,Q4,readsAll_len r]
section
open PySem.SeqAt
open PySem.AutoSeq1 (wpAny_loadPart')
open PySem.MeetsSeq PySem.MeetsSeq2 PySem.MeetsSeq3
theorem Qe0{l b:Addr}{items items2:Array Value}{n n2:Nat}{dd dd2:Option Addr}{sl sl2:Array (Option Value)}{ds es:List PyData}{as bs:List Addr}{N:Nat}(hk:Qgn ds es=true)(hc1:JB ds=true)(hc2:JB es=true)(hd:JQ ds<=N)
  (ih:∀(x y:PyData)(A:Q5)(s:Shared)(v u:Value)(p q:List Addr),QiA s.heap v x p->QiA s.heap u y q->x.canLay0=true->y.canLay0=true->Qli x y=true->x.depth<=N->A.units+2*N+2<cLine->∀(prog:QD)(w:Je)(E Q:Value->Shared->Prop),Q (.bool (ltD x y)) s->wpAny (model prog w) A (richCompare .Lt v u) Q E s) :
  Meets (Qbl.«tuple.__lt__» ⟨[.ref l,.ref b],[]⟩)
   (λA R s=>s.heap.get? l=some { cls:=.type "tuple",dict:=dd,data:=.seq items n,slots:=sl }/\s.heap.get? b=some { cls:=.type "tuple",dict:=dd2,data:=.seq items2 n2,slots:=sl2 }/\Qcr s.heap items.toList ds as/\Qcr s.heap items2.toList es bs/\A.units+2*N+4<cLine /\
    R (.ok (.ret (.bool (Qtq ds es)))) s):=
 .of_wp λprog w A R s h=>by
  obtain⟨hp,g,d,tk,os⟩:=s;obtain⟨hl,hb,hr1,hr2,hu,h⟩:=h;have f2:=AutoSeq1.sub_tuple_tuple;have hu1:A.in1.units+2*N+2<cLine:=by show A.units+1+2*N+2<cLine;omega
  have z1:items.size=ds.length:=by rw[<- readsAll_len hr1];simp
  have z2:items2.size=es.length:=by rw[<- readsAll_len hr2];simp
  wp_walk using Zp hl,Zp hb,wpAny_forIn_list _ (λrest b s'=>b.1=none/\s'=⟨hp,g,d,tk,os⟩/\∃(vs ws:List Value)(xs ys:List PyData)(p q:List Addr),rest=vs.zip ws /\
   Qcr hp vs xs p/\Qcr hp ws ys q/\Qgn xs ys=true/\JB xs=true/\JB ys=true/\JQ xs<=N/\xs.length+items2.size=ys.length+items.size/\R (.ok (.ret (.bool (Qtq xs ys)))) ⟨hp,g,d,tk,os⟩) _
  case turn=>
   rintro⟨y,x⟩ rest b s' ⟨hb',rfl,vs,ws,xs,ys,p,q,hz,hvi,hwi,hkk,c1,c2,hdd,hlen,hR⟩;cases hvi with
   |nil=>rw[List.zip_nil_left] at hz;cases hz
   |@cons v0 vs0 d1 ds1 as1 as2 r1 hvi'=>
    cases hwi with
    |nil=>rw[List.zip_nil_right] at hz;cases hz
    |@cons u0 us0 d2 ds2 bs1 bs2 r2 hwi'=>
     rw[Qlp] at hz;injection hz with hyx hrest
     injection hyx with hy hx
     subst hy hx;have hkk:=QC.mp (show(Qli d1 d2&&Qgn ds1 ds2)=true from hkk);simp only[JB,Ju] at c1 c2;have dm1:d1.depth<=N:=QQ (Qfp (ds:=d1::ds1) (.head _)) hdd;have dm2:JQ ds1<=N:=QQ (show JQ ds1<=max d1.depth (JQ ds1) from QrK _ _) hdd;simp only[Q4] at hlen;have he:=Qnq d1 d2 A.in1 ⟨hp,g,d,tk,os⟩ y x _ _ r1 r2 c1.1 c2.1 (by omega);have hR:R (.ok (.ret (.bool (isL (thn (QrS d1 d2) (Qh7 ds1 ds2)))))) ⟨hp,g,d,tk,os⟩:=hR;rw[Qn2 d1 d2 hkk.1] at he;have hri:=λE Q=>ih d1 d2 A.in1 ⟨hp,g,d,tk,os⟩ y x _ _ r1 r2 c1.1 c2.1 hkk.1 dm1 hu1 prog w E Q
     unfold ltD at hri;cases e1:QrS d1 d2 with
     |lt=>
      rw[e1] at he hR hri;refine wpAny_bind (he prog w _ _ ?_)
      wp_walk using hri
      exact⟨_,rfl,hR⟩
     |gt=>
      rw[e1] at he hR hri;refine wpAny_bind (he prog w _ _ ?_)
      wp_walk using hri
      exact⟨_,rfl,hR⟩
     |eq=>
      rw[e1] at he hR;refine wpAny_bind (he prog w _ _ ?_)
      wp_walk
      exact⟨rfl,rfl,_,_,_,_,_,_,hrest,hvi',hwi',hkk.2,c1.2,c2.2,dm2,by omega,hR⟩
  case fin=>
   rintro⟨b1,b2⟩ s' ⟨hb',rfl,vs,ws,xs,ys,p,q,hz,hvi,hwi,hkk,c1,c2,hdd,hlen,hR⟩;simp only at hb';subst hb';have hv:Qtq xs ys=decide (items.size<items2.size):=by
    cases hvi with
    |nil=>
     cases hwi with
     |nil=>
      simp only[QeO] at hlen;exact(decide_eq_false (by omega)).symm
     |cons r2 hw=>
      simp only[QeO,Q4] at hlen;exact(decide_eq_true (by omega)).symm
    |cons r1 hv=>
     cases hwi with
     |nil=>
      simp only[QeO,Q4] at hlen;exact(decide_eq_false (by omega)).symm
     |cons r2 hw=>
      rw[Qlp] at hz;cases hz
   rw[hv] at hR
   wp_walk
   exact⟨_,rfl,by simpa [Qu3] using hR⟩
  case h=>
   exact⟨rfl,rfl,items.toList,items2.toList,ds,es,as,bs,rfl,hr1,hr2,hk,hc1,hc2,hd,by omega,h⟩
end
end Rt
namespace Rt
open PySem.Calls PySem.W Dl
mutual
def okK:PyData->Bool
 |.int _=>true
 |.tuple ds=>Quy ds
 |_=>false
def Quy:List PyData->Bool
 |[]=>true
 |d::ds=>okK d&&Quy ds
end
theorem Qvj:∀(N:Nat)(x y:PyData)(A:Q5)(s:Shared)(v u:Value)(p q:List Addr),QiA s.heap v x p->QiA s.heap u y q->x.canLay0=true->y.canLay0=true->Qli x y=true->x.depth<=N->A.units+2*N+2<cLine->∀(prog:QD)(w:Je)(E Q:Value->Shared->Prop),Q (.bool (ltD x y)) s->wpAny (model prog w) A (richCompare .Lt v u) Q E s:=by
 intro N;have intz:∀(i j:Int)(A:Q5)(s:Shared)(v u:Value)(p q:List Addr),QiA s.heap v (.int i) p->QiA s.heap u (.int j) q->∀(prog:QD)(w:Je)(E Q:Value->Shared->Prop),Q (.bool (ltD (.int i) (.int j))) s->wpAny (model prog w) A (richCompare .Lt v u) Q E s:=by
  intro i j A s v u p q r1 r2 prog w E Q h;cases r1;cases r2;refine HT.QgO A s i _ j _ prog w E Q ?_
  have e:ltD (.int i) (.int j)=decide (i<j):=by
   show isL (Qt0 i j)=_;unfold Qt0;by_cases z:i<j
   ·rw[if_pos z,decide_eq_true z];rfl
   ·rw[if_neg z,decide_eq_false z];split<;>rfl
  rw[e] at h;exact h
 induction N with
 |zero=>
  intro x y A s v u p q r1 r2 c1 c2 hk hd hu prog w E Q h;cases x<;>cases y<;>first | (cases hk;done) | skip
  ·exact intz _ _ A s v u p q r1 r2 prog w E Q h
  ·unfold Yu at hd;omega
 |succ N ih=>
  intro x y A s v u p q r1 r2 c1 c2 hk hd hu prog w E Q h;cases x<;>cases y<;>first | (cases hk;done) | skip
  ·exact intz _ _ A s v u p q r1 r2 prog w E Q h
  ·rename_i ds es
   cases r1 with
   |@tuple a o vs n _ _ ho hc hd' ra=>
    cases r2 with
    |@tuple b o2 vs2 n2 _ _ ho2 hc2 hd2 rb=>
     obtain⟨cls,dd,data,sl⟩:=o;obtain⟨cls2,dd2,data2,sl2⟩:=o2;simp only at hc hd' hc2 hd2;subst hc hd' hc2 hd2;have dd3:JQ ds<=N:=by unfold Yu at hd;omega
     exact richCompare_meets_room (op:=.Lt) ⟨_,ho,rfl⟩ ⟨_,ho2,rfl⟩ PySem.F.slot_tuple_lt PySem.F.entry_tuple_lt (PySem.F.args_tuple_lt_2 _ _) (Qe0 (N:=N) hk c1 c2 dd3 ih)
      ⟨ho,ho2,ra,rb,by omega,show Zo (Qtq ds es)≠Qih/\Q (.bool (Qtq ds es)) s from⟨(λx=>nomatch x),h⟩⟩ (by omega)
section
variable{prog:QD}{w:Je}{A:Q5}{E:Value->Shared->Prop}{s:Shared}
end
section
variable{M:QiG}{A:Q5}{E:Value->Shared->Prop}{s:Shared}
end
section
variable{prog:QD}{w:Je}{A:Q5}{E:Value->Shared->Prop}{s:Shared}
end
end Rt
namespace Rt
open PySem.Calls PySem.W Dl Rs
section
variable{prog:QD}{w:Je}{A:Q5}{E:Value->Shared->Prop}{s:Shared}
end
end Rt
namespace L2
open PySem.Calls _root_.Rd _root_.Rk _root_.Rs Rt Dl
section
variable{X:Cx}
end
end L2
namespace Dl
open L2 _root_.Rd Rk Rt
mutual
theorem QjU:∀(d:PyData),okK d=true->nd d=true
 |.int _,_=>rfl
 |.tuple ds,h=>QjT ds h
 |.none,h=>by cases h
 |.bool _,h=>by cases h
 |.str _,h=>by cases h
 |.list _,h=>by cases h
 |.dict _,h=>by cases h
theorem QjT:∀(ds:List PyData),Quy ds=true->nds ds=true
 |[],_=>rfl
 |d::ds,h=>by
  have h:=QC.mp (show(okK d&&Quy ds)=true from h);show(nd d&&nds ds)=true;rw[QjU d h.1,QjT ds h.2];rfl
end
end Dl
namespace Rt
open L2 _root_.Rd Rk _root_.Rs Dl
end Rt
namespace L2
open PySem.Calls _root_.Rd _root_.Rk _root_.Rs Rt Dl
section
variable{X:Cx}{pins:List (Addr×Obj)}{σ:St}{l it S:Addr}{xs:List V}{ds:List PyData}{H0:Hp}{R:Qhp->Shared->Prop}
end
section
variable{X:Cx}
end
end L2
namespace Dl
open L2 _root_.Rd Rk Rt
end Dl
namespace L2
open PySem.Calls _root_.Rd _root_.Rk Rt
section
variable{X:Cx}
theorem Qjj(bs:List Bool):((Q9 bs.length).any λi=>(bs[i]?).getD false)=bs.any id:=by
 rw[Yl,YH,YH];constructor
 ·rintro⟨i,hi,h⟩;have hl:=JI.mp hi;rw[Qm hl] at h;exact⟨bs[i],Qdp hl,h⟩
 ·rintro⟨b,hb,h⟩;obtain⟨i,hi⟩:=Q7.mp hb;exact⟨i,JI.mpr (Qw.mp hi).1,by rw[hi];exact h⟩
theorem Qnl:CallR X (.builtin "any") (λxs H Q=>∃(p:Addr)(bs:List Bool),xs=[.ref p]/\SqL X.K H p (bs.map V.bl)/\X.calm=true/\Q (.bl (bs.any id)) H):=by
 intro pins s σ H xs us Q I r h;obtain⟨p,bs,rfl,hp,hc,q⟩:=h;obtain⟨u,rfl,ru⟩:=vals1 r;cases ru;obtain⟨its,rv,pl,hz⟩:=I.list hp;have hl:=pl.isList;have hb:=Qhj rv;have hlt:p<s.heap.objs.size:=by obtain⟨_,e,_⟩:=hl;exact Qi e
 refine call_any_walk (Qa1 hl ?_);refine⟨s.heap.objs.size,[s.heap.objs.size,p],[s.heap.objs.size],its.toArray.size,_,_,λi=>(bs[i]?).getD false,rfl,Walks.list (A:=X.A.in1) (I.ok.hd hc) _ p (Qs hlt) its.toArray,
  ⟨⟨_,Qp _ rfl,rfl,rfl⟩,hl.push _⟩,λi v s' Q' E' hP hQ=>?_,λh' tk hk=>?_⟩
 ·obtain⟨b,e,rfl⟩:=hb.get i v (by simpa using hP);simp only[e,Qln] at hQ;exact Jy hQ
 ·have e:((Q9 its.toArray.size).any λi=>(bs[i]?).getD false)=bs.any id:=by
   rw[Qo,hb.length];exact Qjj bs
  rw[e];exact⟨.bl _,H,I.kept (Qht hk),rfl,q⟩
def ddI(ns:List Int):List Int:=ns.foldl Qa4 []
theorem Qnb(ns:List Int):firstMet (λi=>ns.getD i 0) ns.length=ddI ns:=by
 unfold firstMet ddI
 congr 1
 apply QaB
 intro i;rw[Qz];by_cases h:i<ns.length
 ·rw[JV h,Qm h];show some (ns.getD i 0)=_;rw[Q2,Qm h];rfl
 ·rw[JA (by simpa using h),JA (by omega)];rfl
def Qvl(K:PySem.W.Frag):List V->Hp->VK->Prop:=λxs H Q=>∃(l:Addr)(ns:List Int),xs=[.ref l]/\SqL K H l (ns.map V.int)/\ns.length<=4000 /\
 ∀(t:Addr)(H2:Hp),Same H H2->H t=none->H2 t=some (.set (λk=>(ddI ns).any (· == k)) (ddI ns).length)->Q (.ref t) H2
theorem QkU(hc:X.calm=true):CallR X (.type "set") (Qvl X.K):=by
 intro pins s σ H xs us Q I r h;obtain⟨p,ns,rfl,hp,hn,q⟩:=h;obtain⟨u,rfl,ru⟩:=vals1 r;cases ru;obtain⟨its,rv,pl,hz⟩:=I.list hp;have hi:Qbj its ns:=intsAre_of rv;have hl:=hi.length;refine PySem.call_set_list (items:=its.toArray) (ns:=ns) (I.ok.hd hc) pl.isList (by simpa using hi) (by rw[Qo,hl];unfold scanBound;omega) λh' tk hS hk=>?_
 have ez:its.toArray.size=ns.length:=by rw[Qo];exact hl
 rw[ez,Qnb] at hS;have hf:H s.heap.objs.size=none:=I.hok.fresh (Ql _);refine⟨.ref s.heap.objs.size,upd H s.heap.objs.size (.set (λk=>(ddI ns).any (· == k)) (ddI ns).length),I.laid (t':=tk) (λb x e=>hk b x (Qi e) e) (Ql _) hS,rfl,q _ _ (Jk hf) hf Jc⟩
def QoO:List V->Hp->VK->Prop:=λxs H Q=>∃(a:Addr)(S:Int->Bool)(n:Nat),xs=[.ref a]/\H a=some (.set S n)/\n<=4000/\Q (.int n) H
theorem Qgs:CallR X (.builtin "len") QoO:=by
 intro pins s σ H xs us Q I r h;obtain⟨a,S,n,rfl,ha,hn,q⟩:=h;obtain⟨u,rfl,ru⟩:=vals1 r;cases ru;obtain⟨o,es,ep,t,ho,hex,hd,hel,hmem,hb,hf,hz⟩:=I.hok a _ ha;have hz:es.size=n:=hz;refine PySem.call_len_set ho hex hd hf (by
                       rw[hz];have:(4000:Int)<2^63:=by decide
                       omega) ?_
 rw[hz];exact⟨.int n,H,I.tok _,⟨_,rfl⟩,q⟩
theorem Qhc:∀(ns σ:List Int),(ns.foldl Qa4 σ).length<=σ.length+ns.length/\(σ.Nodup->((ns.foldl Qa4 σ).length=σ.length+ns.length↔(σ++ns).Nodup))
 |[],σ=>⟨Ql _,λh=>by simp[h]⟩
 |n::ns,σ=>by
  rw[QrO,Q4];by_cases z:σ.any (· == n)=true
  ·have e:Qa4 σ n=σ:=by unfold Qa4;rw[if_pos z]
   rw[e];obtain⟨a,b⟩:=Qhc ns σ;refine⟨by omega,λhs=>⟨λq=>by omega,λq=>?_⟩⟩;obtain⟨x,hx,hn⟩:=YH.mp z;have hn:=beq_iff_eq.mp hn;subst hn;exact absurd rfl ((Yv.mp q).2.2 x hx x (.head _))
  ·have e:Qa4 σ n=σ++[n]:=by unfold Qa4;rw[if_neg z]
   rw[e];obtain⟨a,b⟩:=Qhc ns (σ++[n]);rw[QF] at a b;have nm:n∉σ:=λhx=>z (YH.mpr ⟨n,hx,by simp⟩)
   refine⟨by simp only[Qbd] at a;omega,λhs=>?_⟩;have hs2:(σ++[n]).Nodup:=Yv.mpr ⟨hs,by simp,λx hx y hy=>by rw[QY.mp hy];exact λe=>nm (e ▸ hx)⟩;have:=b hs2;rw[Qnv] at this;have e3:σ++n::ns=σ++([n]++ns):=rfl;rw[e3,<- this];simp only[Qbd];omega
theorem Qv2(ns:List Int):(ddI ns).length<=ns.length:=by have:=(Qhc ns []).1;unfold ddI;simpa using this
theorem Qhb(ns:List Int):(ddI ns).length=ns.length↔ns.Nodup:=by have:=(Qhc ns []).2 (by simp);unfold ddI;simpa using this
def Qwk:R2:=λx y H Q=>∃d e,Dat H x d/\Dat H y e/\Dl.Qli d e=true/\d.depth<=20/\Q (.bl (Dl.ltD d e)) H
theorem Qs9(hu:X.A.units+60<cLine):OpR X (compareOp .Lt) Qwk:=by
 intro pins s σ H x y v u Q I rx ry h;obtain⟨d,e,qx,qy,hk,hd,q⟩:=h;obtain⟨⟨as,ra⟩,ca⟩:=ZP I.hok d x v qx rx;obtain⟨⟨bs,rb⟩,cb⟩:=ZP I.hok e y u qy ry;exact Qvj 20 d e X.A s v u as bs ra rb ca cb hk hd (by omega) _ _ _ _ ⟨.bl _,H,I,rfl,q⟩
end
end L2
namespace Dl
open L2 _root_.Rd Rk Rt
theorem bt_any:bootBuiltins "any" = some (.builtin "any"):=PyProof.Rows.boot_any
@[irreducible] def QuD:List PyData->(PyData->Prop)->Prop
 |[.list ds],Q=>∃bs,QaI ds=some bs/\Q (.bool (bs.any id))
 |_,_=>False
theorem Qt3{K:PySem.W.Frag}{cm:Bool}(hc:cm=true):Qay (λxs H Q=>∃(p:Addr)(bs:List Bool),xs=[.ref p]/\SqL K H p (bs.map V.bl)/\cm=true/\Q (.bl (bs.any id)) H) QuD:=λA P H vs ds R Q ln dm q h k=>by
 unfold QuD at h;split at h
 ·obtain⟨v,rfl,hv⟩:=pd1 q;obtain⟨bs,hb,hR⟩:=h;rw[bools_eq hb] at hv;obtain⟨l,xs,rfl,e,qq⟩:=hv.list;rw[Qc5 qq] at e;exact⟨l,bs,rfl,SqL.of e,hc,k _ hR _ H (Same.refl H) (.bl _) Ym⟩
 ·exact h.elim
theorem any_map{α:Type}(l:List α)(g:α->Bool):(l.map g).any id=l.any g:=by rw[Qip];rfl
theorem QrE{ds:List PyData}{Q:PyData->Prop}{g:PyData->Bool}{items:List PyData}(h:ds=[.list (items.map λd=>.bool (g d))])(q:Q (.bool (items.any g))):QuD ds Q:=by
 subst h;unfold QuD;refine⟨items.map g,?_,by rw[any_map];exact q⟩;rw[show items.map (λd=>Yo (g d))=(items.map g).map Yo by rw[Jj];rfl,QfB]
def Qxg:PyData->PyData->(PyData->Prop)->Prop:=λd e Q=>(okK d=true/\okK e=true/\Qli d e=true/\d.depth<=20)/\Q (.bool (ltD d e))
theorem Qtl:OpD Qwk Qxg:=λA P H x y d1 d2 R Q ln dm hx hy h k=>by
 obtain⟨⟨h1,h2,h3,h4⟩,hR⟩:=h;exact⟨d1,d2,hx.dat (QjU d1 h1),hy.dat (QjU d2 h2),h3,h4,k _ hR _ H (Same.refl H) (.bl _) Ym⟩
section
variable{X:Cx}{E:XK}
def QkF(w:DE):DE:=λδ Q EX=>w δ (λd=>match d with
 |.list ds=>∃ns,Y9 ds=some ns/\ns.length<=4000/\Q (.int (ddI ns).length)
 |_=>False) EX
theorem bt_set:bootBuiltins "set" = some (.type "set"):=by decide +kernel
theorem QjF{e:QL}{w:DE}{p p2 pos pos2:Pos}(hg:Gl X "len")(hm:X.mg "len" = none)(hg2:Gl X "set")(hm2:X.mg "set" = none)(h:PE X e (tX .P X.K E w))(hc:X.calm=true)(hs:JC e=true):PE X (.Call (.Name "len" p) [.Call (.Name "set" p2) [e] [] pos2] [] pos) (tX .F X.K E (QkF w)):=by
 refine PE.imp (Qah Qgs hg hm YE (Qcq (Qfa (QkU hc) hg2 hm2 bt_set (Qcq h Zu hs) (he:=ZO hs)) Zu)) λσ H Q ⟨F,δ,R,EX,rel,hw,k,o⟩=>?_
 refine⟨F,δ,_,EX,rel,hw,λd hd v H1 rel1 kp1 vk=>?_,o⟩;cases d<;>first | exact(show False from hd).elim | skip
 obtain⟨ns,hn,hl,hR⟩:=hd;rw[Qb7 hn] at vk;obtain⟨l,xs,rfl,e,q⟩:=DP.list vk;rw[QaM q] at e;refine⟨l,ns,rfl,SqL.of e,hl,λt H2 s2 n2 e2=>⟨t,_,_,rfl,e2,?_,?_⟩⟩
 ·have:=Qv2 ns;omega
 ·exact k _ hR _ H2 (rel1.same s2) (kp1.trans (Kp.same rel1 s2)) ⟨.int _,ZI⟩
theorem QgR{e:QL}{w:DE}{p p2 pos pos2:Pos}(hg:Gl X "len")(hm:X.mg "len" = none)(hg2:Gl X "set")(hm2:X.mg "set" = none)(h:QE .P X E e w)(hc:X.calm=true:=by rfl)(hs:JC e=true:=by rfl):QE .F X E (.Call (.Name "len" p) [.Call (.Name "set" p2) [e] [] pos2] [] pos) (QkF w):=⟨QjF hg hm hg2 hm2 h.h hc hs⟩
end
end Dl
namespace Rk
open L2 _root_.Rd Dl Rt
def Qdk:List PyData->Bool
 |x::y::r=>ltD x y&&Qdk (y::r)
 |_=>true
def Qtp:PyData->Bool
 |.tuple [a,b]=>ltD a b
 |_=>false
theorem Qnh(d:PyData)(ds:List PyData):Dl.cutD (d::ds) (some 1) none=ds:=by
 unfold Dl.cutD;rw[HT.QlO,show(1:Int)=((1:Nat):Int) from rfl,HT.QoJ];rw[Nat.min_eq_left (by rw[Q4];omega),List.drop_one,List.tail_cons,Q4,Nat.add_sub_cancel,ZM]
theorem QcH:∀ds:List PyData,(QeS ds (Dl.cutD ds (some 1) none)).all Qtp=Qdk ds
 |[]=>by
  have h:(QeS ([]:List PyData) (Dl.cutD [] (some 1) none))=[]:=by unfold QeS;rfl
  rw[h];rfl
 |[x]=>by rw[Qnh];rfl
 |x::y::r=>by
  have ih:=QcH (y::r);rw[Qnh] at ih ⊢;show(Qtp (.tuple [x,y])&&(QeS (y::r) r).all Qtp)=_;rw[ih];rfl
def Qoe(ds:List PyData):Prop:=∀x∈ds,okK x=true/\x.depth<=20/\∀y∈ds,Qli x y=true
def Qf3:DF:=λargs R _=>∃ds:List PyData,(args=[.v (.tuple ds)]∨args=[.v (.list ds)])/\Qoe ds/\R (.bool (Qdk ds))
def Qkk(h w:Int):PyData->Bool
 |.tuple [a,b]=>inW a 0 (h - 1)&&inW b 0 (w - 1)
 |_=>false
theorem QtB{h w:Int}{d:PyData}(q:Qkk h w d=true):∃p:Int×Int,d=pairD p/\0<=p.1/\p.1<h/\0<=p.2/\p.2<w:=by
 cases d<;>first | (cases q;done) | skip
 rename_i ds
 match ds,q with
 |[a,b],q=>
  have q:=QC.mp (show(inW a 0 (h - 1)&&inW b 0 (w - 1))=true from q);obtain⟨i,rfl,i1,i2⟩:=Qh2 q.1;obtain⟨j,rfl,j1,j2⟩:=Qh2 q.2;exact⟨(i,j),rfl,i1,by show i<h;omega,j1,by show j<w;omega⟩
 |[],q=>cases q
 |[_],q=>cases q
 |_::_::_::_,q=>cases q
def toP:PyData->Int×Int
 |.tuple [.int a,.int b]=>(a,b)
 |_=>(0,0)
theorem Qep{h w:Int}{ds:List PyData}(q:ds.all (Qkk h w)=true):∃L:List (Int×Int),ds=L.map pairD/\∀p∈L,0<=p.1/\p.1<h/\0<=p.2/\p.2<w:=by
 induction ds with
 |nil=>exact⟨[],rfl,λ_ h=>nomatch h⟩
 |cons d ds ih=>
  rw[QgC,Ju] at q;obtain⟨p,rfl,hp⟩:=QtB q.1;obtain⟨L,rfl,hL⟩:=ih q.2;refine⟨p::L,rfl,λx hx=>?_⟩;rcases Qx.mp hx with z | z
  ·rw[z];exact hp
  ·exact hL x z
theorem Qfb(L:List (Int×Int)):(L.map pairD).map toP=L:=by
 rw[Jj]
 conv=>rhs;rw[<- QeM L]
 rfl
theorem Qgl(p:Int×Int):(pairD p).depth<=1:=by
 show JQ [.int p.1,.int p.2]+1<=1;simp[JQ,Yu]
theorem Qfq(L:List (Int×Int)):Qoe (L.map pairD):=λx hx=>by
 obtain⟨p,_,rfl⟩:=QU.mp hx;refine⟨rfl,QQ (Qgl p) (by decide),λy hy=>?_⟩;obtain⟨q,_,rfl⟩:=QU.mp hy;rfl
def stT(L:List (Int×Int)):PyData:=.tuple (L.map pairD)
def plt(p q:Int×Int):Prop:=p.1<q.1∨(p.1=q.1/\p.2<q.2)
def Qxi(h w:Int):PyData->Bool
 |.tuple ds=>ds.all (Qkk h w)&&Qdk ds
 |_=>false
def apB(L:List (Int×Int)):Bool:=decide (L.map (·.1)).Nodup&&decide (L.map (·.2)).Nodup
def bdD(h w:Int)(cs:List (Int×Int)):PyData:=.tuple [.int h,.int w,.tuple (cs.map pairD)]
def inC(cs:List (Int×Int))(e:PyData):Bool:=(cs.map pairD).any λc=>Jo c e
def QtA(h w:Int)(cs:List (Int×Int)):PyData->Bool
 |.tuple ds=>(ds.all (Qkk h w)&&Qdk ds)&&(ds.all (inC cs)&&apB (ds.map toP))
 |_=>false
def Qjw:DF:=λargs R _=>∃(h w:Int)(d:PyData),args=[.v (.int h),.v (.int w),.v d]/\R (.bool (Qkk h w d))
def QkQ:DF:=λargs R _=>∃(h w:Int)(d:PyData),args=[.v (.int h),.v (.int w),.v d]/\R (.bool (Qxi h w d))
def Qk8:DF:=λargs R _=>∃L:List (Int×Int),args=[.v (.tuple (L.map pairD))]/\L.length<=4000/\R (.bool (apB L))
def QcJ(d:PyData):Prop:=∀ds,d=.tuple ds->ds.length<=1000
def Qi2:DF:=λargs R _=>∃(h w:Int)(cs:List (Int×Int))(d:PyData),args=[.v (bdD h w cs),.v d]/\QcJ d/\R (.bool (QtA h w cs d))
theorem Yc{d:PyData}(h:(match d with | .tuple _=>false | _=>true)=true):QcJ d:=λls e=>by subst e;cases h
theorem QoE{ds:List PyData}(h:ds.length<=1000):QcJ (.tuple ds):=λls e=>by cases e;exact h
theorem Qcb(ns:List Int):Y9 (ns.map Qe)=some ns:=Dl.ints_map ns
def QeT(r n:Nat)(f:Nat->Nat->Bool):List (Int×Int):=((Q9 n).filter (f r)).map λ(c:Nat)=>((r:Int),(c:Int))
def YD(h w:Nat)(f:Nat->Nat->Bool):List (Int×Int):=(Q9 h).flatMap λr=>QeT r w f
theorem Qak(h w:Nat)(f:Nat->Nat->Bool):YD (h+1) w f=YD h w f++QeT h w f:=by
 unfold YD;rw[QrM,Qcd];simp
theorem Qbv{r n:Nat}{f:Nat->Nat->Bool}{p:Int×Int}:p∈QeT r n f↔∃c:Nat,c<n/\f r c=true/\p=((r:Int),(c:Int)):=by
 unfold QeT;rw[QU];constructor
 ·rintro⟨c,hc,rfl⟩;have hc:=JJ.mp hc;exact⟨c,JI.mp hc.1,hc.2,rfl⟩
 ·rintro⟨c,hc,hf,rfl⟩;exact⟨c,JJ.mpr ⟨JI.mpr hc,hf⟩,rfl⟩
theorem QdO{h w:Nat}{f:Nat->Nat->Bool}{p:Int×Int}:p∈YD h w f↔∃r c:Nat,r<h/\c<w/\f r c=true/\p=((r:Int),(c:Int)):=by
 unfold YD;rw[QaP];constructor
 ·rintro⟨r,hr,hp⟩;obtain⟨c,hc,hf,rfl⟩:=Qbv.mp hp;exact⟨r,c,JI.mp hr,hc,hf,rfl⟩
 ·rintro⟨r,c,hr,hc,hf,rfl⟩;exact⟨r,JI.mpr hr,Qbv.mpr ⟨c,hc,hf,rfl⟩⟩
theorem Qfr{h w:Nat}{f:Nat->Nat->Bool}{p:Int×Int}(q:p∈YD h w f):0<=p.1/\p.1<h/\0<=p.2/\p.2<w:=by
 obtain⟨r,c,hr,hc,_,rfl⟩:=QdO.mp q;exact⟨Qnw _,by show(r:Int)<h;omega,Qnw _,by show(c:Int)<w;omega⟩
theorem QgM(r n:Nat)(f:Nat->Nat->Bool):(QeT r n f).length<=n:=by
 unfold QeT;rw[Qg];exact QQ (Yz _ _) (by rw[Ja];exact Ql _)
theorem QdU(w:Nat)(f:Nat->Nat->Bool):∀h,(YD h w f).length<=h*w
 |0=>Jx _
 |h+1=>by
  have:=QdU w f h;have:=QgM h w f;rw[Qak,QF,QiE];omega
theorem Qc2(r n:Nat)(f:Nat->Nat->Bool):(QeT r n f).filter (λp=>decide (p.1=(r:Int)))=QeT r n f:=List.filter_eq_self.mpr λp hp=>by
 obtain⟨c,_,_,rfl⟩:=Qbv.mp hp;exact decide_eq_true rfl
theorem Qc3{r k n:Nat}(h:r≠k)(f:Nat->Nat->Bool):(QeT r n f).filter (λp=>decide (p.1=(k:Int)))=[]:=Qhs.mpr λp hp=>by
 obtain⟨c,_,_,rfl⟩:=Qbv.mp hp;show ¬decide ((r:Int)=(k:Int))=true;rw[decide_eq_false (by omega)];exact Qr
theorem QdT(w k:Nat)(f:Nat->Nat->Bool):∀h,(YD h w f).filter (λp=>decide (p.1=(k:Int)))=if k<h then QeT k w f else[]
 |0=>rfl
 |h+1=>by
  rw[Qak,List.filter_append,QdT w k f h];by_cases z:k=h
  ·subst z;rw[if_neg (by omega),Qc2,if_pos (by omega)];rfl
  ·rw[Qc3 (λe=>z e.symm),Zk];by_cases z2:k<h
   ·rw[if_pos z2,if_pos (by omega)]
   ·rw[if_neg z2,if_neg (by omega)]
theorem QoY(r n:Nat)(f:Nat->Nat->Bool):(QeT r n f).Pairwise plt:=by
 unfold QeT;refine QuW (R:=λa b=>a<b) _ (λa b hab=>.inr ⟨rfl,by show(a:Int)<b;omega⟩) ?_
 exact ZN _ List.pairwise_lt_range
theorem Qe7(w:Nat)(f:Nat->Nat->Bool):∀h,(YD h w f).Pairwise plt
 |0=>.nil
 |h+1=>by
  rw[Qak];refine YJ.mpr ⟨Qe7 w f h,QoY h w f,λp hp q hq=>?_⟩;obtain⟨r,c,hr,_,_,rfl⟩:=QdO.mp hp;obtain⟨c',_,_,rfl⟩:=Qbv.mp hq;exact .inl (by show(r:Int)<h;omega)
theorem QsE{p q:Int×Int}(h:plt p q):p≠q:=λe=>by subst e;rcases h with z | z<;>omega
def QlP(cs:List (Int×Int))(r:Int):List (Int×Int):=cs.filter λp=>decide (p.1=r)
def Qnd(cells L:List (Int×Int)):List (List (Int×Int)):=(cells.filter λc => !decide (c.2∈L.map (·.2))).map λc=>L++[c]
def QfP(cs:List (Int×Int)):Nat->List (List (Int×Int))
 |0=>[[]]
 |i+1=>QfP cs i++(QfP cs i).flatMap (Qnd (QlP cs i))
theorem Qnc(cells L:List (Int×Int)):(Qnd cells L).length<=cells.length:=by
 unfold Qnd;rw[Qg];exact Yz _ _
theorem Qg9{α β:Type}{f:α->List β}{k:Nat}:∀{xs:List α},(∀x∈xs,(f x).length<=k)->(xs.flatMap f).length<=xs.length*k
 |[],_=>Jx _
 |x::xs,h=>by
  have h1:=h x (.head _);have h2:=Qg9 (xs:=xs) λy hy=>h y (.tail _ hy)
  rw[Qdf,QF,Q4,QiE];omega
theorem QgE{cs:List (Int×Int)}{k:Nat}(h:∀r,(QlP cs r).length<=k):∀i,(QfP cs i).length<=(k+1)^i
 |0=>Ql _
 |i+1=>by
  have h1:=QgE h i;have h2:=Qg9 (xs:=QfP cs i) (k:=k) λL _=>QQ (Qnc (QlP cs i) L) (h i)
  show(QfP cs i++(QfP cs i).flatMap (Qnd (QlP cs i))).length<=_;rw[QF,Nat.pow_succ,Nat.mul_add,Nat.mul_one];have h3:(QfP cs i).length*k<=(k+1)^i*k:=Nat.mul_le_mul_right k h1;omega
theorem Qbw{cells L M:List (Int×Int)}:M∈Qnd cells L↔∃c∈cells,c.2∉L.map (·.2)/\M=L++[c]:=by
 unfold Qnd;rw[QU];constructor
 ·rintro⟨c,hc,rfl⟩;have hc:=JJ.mp hc;exact⟨c,hc.1,by simpa using hc.2,rfl⟩
 ·rintro⟨c,hc,hn,rfl⟩;exact⟨c,JJ.mpr ⟨hc,by simpa using hn⟩,rfl⟩
theorem Qi0(cs:List (Int×Int)):∀i,[]∈QfP cs i
 |0=>.head _
 |i+1=>JY.mpr (.inl (Qi0 cs i))
theorem QrD(ns:List Int)(i:Int):((ns.map Qe).any λe=>Jo e (.int i))=decide (i∈ns):=by
 rw[Qip,Yl,YH,decide_eq_true_iff];constructor
 ·rintro⟨c,hc,h⟩;have:c=i:=by simpa [Jo] using h
  rw[<- this];exact hc
 ·intro h;refine⟨i,h,?_⟩;show(i == i)=true;simp
theorem Qf0(w h:Nat)(f:Nat->Nat->Bool)(r:Int):(QlP (YD h w f) r).length<=w:=by
 by_cases z:0<=r
 ·obtain⟨k,rfl⟩:∃k:Nat,r=k:=⟨r.toNat,by omega⟩
  unfold QlP;rw[QdT];split
  ·exact QgM _ _ _
  ·exact Jx _
 ·have:QlP (YD h w f) r=[]:=Qhs.mpr λp hp e=>by
   have:=Qfr hp;have:=of_decide_eq_true e;omega
  rw[this];exact Jx _
theorem Qi6{ds:List PyData}{k:Nat}(h:ds.length<=k)(hk:k<=1000):QcJ (.tuple ds):=QoE (QQ h hk)
def toI:PyData->Int
 |.int i=>i
 |_=>0
theorem Qg3{ds:List PyData}{a b:Int}(h:ds.all (λd=>inW d a b)=true):ds=(ds.map toI).map Qe/\∀i∈ds.map toI,a<=i/\i<=b:=by
 constructor
 ·rw[Jj]
  conv=>lhs;rw[<- QeM ds]
  refine Zi λd hd=>?_
  obtain⟨i,rfl,_⟩:=Qh2 (J6.mp h d hd);rfl
 ·intro i hi;obtain⟨d,hd,rfl⟩:=QU.mp hi;obtain⟨i,rfl,h1,h2⟩:=Qh2 (J6.mp h d hd);exact⟨h1,h2⟩
theorem Qcv(ns:List Int):(ns.map Qe).map toI=ns:=by
 rw[Jj]
 conv=>rhs;rw[<- QeM ns]
 rfl
def nfI:List Int->Bool
 |x::y::r=>decide (x<=y)&&nfI (y::r)
 |_=>true
def QuA:PyData->Bool
 |.tuple [.int a,.int b]=>decide (a<=b)
 |_=>false
theorem Qny:∀ns:List Int,(QeS (ns.map Qe) (Dl.cutD (ns.map Qe) (some 1) none)).all QuA=nfI ns
 |[]=>by
  have h:(QeS ([]:List PyData) (Dl.cutD [] (some 1) none))=[]:=by unfold QeS;rfl
  rw[Qim,h];rfl
 |[x]=>by rw[Zc,Qnh];rfl
 |x::y::r=>by
  have ih:=Qny (y::r);rw[Zc,Qnh] at ih ⊢;show(QuA (.tuple [.int x,.int y])&&(QeS (Qe y::r.map Qe) (r.map Qe)).all QuA)=_;rw[ih];rfl
theorem Qgf:∀{ns:List Int}{a:Int},nfI ns=true->(∀b,ns.getLast? = some b->b<=a)->nfI (ns++[a])=true
 |[],_,_,_=>rfl
 |[x],a,_,h=>by
  show(decide (x<=a)&&true)=true;rw[decide_eq_true (h x rfl)];rfl
 |x::y::r,a,hn,h=>by
  have hn:=QC.mp (show(decide (x<=y)&&nfI (y::r))=true from hn);show(decide (x<=y)&&nfI (y::r++[a]))=true;rw[hn.1,Qgf hn.2 λb hb=>h b (by rw[Qgz];exact hb)];rfl
def J5:PyData->Bool
 |.tuple ds=>(decide ((1:Int)<=ds.length)&&decide ((ds.length:Int)<=6))&&(ds.all (λd=>inW d 0 6)&&nfI (ds.map toI))
 |_=>false
structure Stairs (ns:List Int):Prop where
 l1:1<=ns.length
 l6:ns.length<=6
 bd:∀i∈ns,0<=i/\i<=6
 nf:nfI ns=true
def tI(ns:List Int):PyData:=.tuple (ns.map Qe)
theorem Qef{d:PyData}(h:J5 d=true):∃ns,d=tI ns/\Stairs ns:=by
 cases d<;>first | (cases h;done) | skip
 rename_i ds
 have h:=QC.mp (show((decide ((1:Int)<=ds.length)&&decide ((ds.length:Int)<=6))&&(ds.all (λd=>inW d 0 6)&&nfI (ds.map toI)))=true from h);have h1:=QC.mp h.1;have h2:=QC.mp h.2;obtain⟨e,b⟩:=Qg3 h2.1;refine⟨ds.map toI,by rw[tI,<- e],?_,?_,b,h2.2⟩
 ·rw[Qg];have:=of_decide_eq_true h1.1;omega
 ·rw[Qg];have:=of_decide_eq_true h1.2;omega
theorem YO{ns:List Int}(h:Stairs ns):J5 (tI ns)=true:=by
 show((decide ((1:Int)<=(ns.map Qe).length)&&decide (((ns.map Qe).length:Int)<=6))&&((ns.map Qe).all (λd=>inW d 0 6)&&nfI ((ns.map Qe).map toI)))=true;have a:=h.l1;have b:=h.l6;have e:(ns.map Qe).all (λd=>inW d 0 6)=true:=J6.mpr λd hd=>by
  obtain⟨i,hi,rfl⟩:=QU.mp hd;exact Qdm (h.bd i hi).1 (h.bd i hi).2
 rw[Qg,Qcv,h.nf,decide_eq_true (by omega),decide_eq_true (by omega),e];rfl
def sH(ns:List Int):Nat:=(max (ns.getLastD 0) 1).toNat
def stF(ns:List Int):Nat->Nat->Bool:=λr c=>decide ((r:Int)<ns.getD c 0)
def stC(ns:List Int):List (Int×Int):=YD (sH ns) ns.length (stF ns)
def sBd(ns:List Int):PyData:=bdD (sH ns) ns.length (stC ns)
def Qm5(L:List (Int×Int))(p:Int×Int):Bool := !(L.any λq=>(decide (q.2=p.2)&&decide (q.1≥p.1))||(decide (q.1=p.1)&&decide (q.2<p.2)))
def Qj0:DF:=λargs R _=>∃ns:List Int,args=[.v (tI ns)]/\R (.bool (nfI ns))
def QfY:DF:=λargs R _=>∃d,args=[.v d]/\R (.bool (J5 d))
def Qjh(C:Addr):DF:=λargs R EX=>∃d,args=[.v d]/\(J5 d=true->R .none)/\(J5 d=false->EX C)
def sbX(C:Addr):DF:=λargs R EX=>∃d,args=[.v d]/\(J5 d=false->EX C)/\∀ns,d=tI ns->Stairs ns->R (sBd ns)
def Qgh:DF:=λargs R _=>∃(L:List (Int×Int))(p:Int×Int),args=[.v (stT L),.v (pairD p)]/\R (.bool (Qm5 L p))
def Qts(cs L:List (Int×Int)):PyData:=.tuple ((cs.filter (Qm5 L)).map pairD)
def Qhg:DF:=λargs R _=>∃(h w:Int)(cs L:List (Int×Int)),args=[.v (bdD h w cs),.v (stT L)]/\R (Qts cs L)
def QnE(ns:List Int)(d:PyData):Bool:=QtA (sH ns) ns.length (stC ns) d
def Qm0(CS CN:Addr):DF:=λargs R EX=>∃a d,args=[.v a,.v d]/\QcJ d/\(J5 a=false->EX CS)/\(∀ns,a=tI ns->Stairs ns->QnE ns d=false->EX CN)/\∀ns L,a=tI ns->Stairs ns->d=stT L->QnE ns d=true->R (Qts (stC ns) L)
theorem QlD{h w:Int}{cs:List (Int×Int)}{d:PyData}(q:QtA h w cs d=true):∃L,d=stT L/\∀p∈L,0<=p.1/\p.1<h/\0<=p.2/\p.2<w:=by
 cases d<;>first | (cases q;done) | skip
 rename_i ds
 have q:=QC.mp (show((ds.all (Qkk h w)&&Qdk ds)&&(ds.all (inC cs)&&apB (ds.map toP)))=true from q);obtain⟨L,rfl,hL⟩:=Qep (QC.mp q.1).1;exact⟨L,rfl,hL⟩
theorem QoK{ns:List Int}(h:Stairs ns):1<=sH ns/\sH ns<=6:=by
 unfold sH;have:ns.getLastD 0<=6:=by
  cases e:ns.getLast? with
  |none=>rw[Zx,e];decide
  |some b=>rw[Zx,e];exact(h.bd b (QiH e)).2
 omega
theorem QfZ{ns:List Int}(h:Stairs ns):(stC ns).length<=36:=by
 have a:=QdU ns.length (stF ns) (sH ns);have b:sH ns*ns.length<=6*6:=Nat.mul_le_mul (QoK h).2 h.l6;unfold stC;omega
theorem Qri{α β:Type}{g:α->Option β}{p:α->Bool}{k:α->β}:∀{xs:List α},(∀x∈xs,g x=if p x=true then some (k x) else none)->xs.filterMap g=(xs.filter p).map k
 |[],_=>rfl
 |x::xs,h=>by
  have ih:=Qri (xs:=xs) λy hy=>h y (.tail _ hy)
  by_cases z:p x=true
  ·rw[List.filterMap_cons_some (by rw[h x (.head _),if_pos z]),ih,List.filter_cons_of_pos z];rfl
  ·rw[List.filterMap_cons_none (by rw[h x (.head _),if_neg z]),ih,List.filter_cons_of_neg z]
def Quu(r:Int):PyData->Option PyData
 |.tuple [.int c,.int m]=>if r<m then some (pairD (r,c)) else none
 |_=>none
theorem Qng(ns:List Int)(r:Nat):(Qc4 (ns.map Qe)).filterMap (Quu r)=(QeT r ns.length (stF ns)).map pairD:=by
 unfold Qc4 QeT;rw[Qct,Qg,Jj];refine Qri λc hc=>?_
 have hc:=JI.mp hc;show Quu r (.tuple [.int c,(ns.map Qe).getD c .none])=_;have e1:(ns.map Qe).getD c .none=.int (ns.getD c 0):=by
  rw[Q2,Qz,Q2,Qm hc];rfl
 rw[e1];show(if(r:Int)<ns.getD c 0 then some (pairD ((r:Int),(c:Int))) else none)=if decide ((r:Int)<ns.getD c 0)=true then _ else _
 by_cases z:(r:Int)<ns.getD c 0
 ·rw[if_pos z,if_pos (decide_eq_true z)];rfl
 ·rw[if_neg z,if_neg (by simpa using z)]
theorem Qp7{ns:List Int}(h:1<=ns.length):atI (ns.map Qe) (-1)=some (.int (ns.getLastD 0)):=by
 cases e:ns.getLast? with
 |none=>rw[QfL] at e;subst e;exact absurd h (by decide)
 |some b=>
  obtain⟨xs,rfl⟩:=QfK.mp e;rw[ZC,Zx,e];exact Qhk _ _
@[irreducible] def QmW:List PyData->(PyData->Prop)->Prop:=Qp5
@[irreducible] def QmV:List PyData->(PyData->Prop)->Prop:=Qp3
theorem Qnj:Qay (λxs H Q=>∃i j,xs=[.int i,.int j]/\Q (.int (if j > i then j else i)) H) QmW:=by unfold QmW;exact QkS
theorem Qni:Qay (λxs H Q=>∃i j,xs=[.int i,.int j]/\Q (.int (if j<i then j else i)) H) QmV:=by unfold QmV;exact QkR
theorem Qp4{i j k:Int}{Q:PyData->Prop}(e:(if j > i then j else i)=k)(h:Q (.int k)):QmW [.int i,.int j] Q:=by
 unfold QmW;show Q (.int (if j > i then j else i));rw[e];exact h
theorem Qet{i j k:Int}{Q:PyData->Prop}(e:(if j<i then j else i)=k)(h:Q (.int k)):QmV [.int i,.int j] Q:=by
 unfold QmV;show Q (.int (if j<i then j else i));rw[e];exact h
def QoM(ns:List Int):PyData->List PyData
 |.int r=>(QeT r.toNat ns.length (stF ns)).map pairD
 |_=>[]
theorem QgN(ns:List Int)(h:Nat):(Qiv 0 h).flatMap (QoM ns)=(YD h ns.length (stF ns)).map pairD:=by
 unfold Qiv YD;rw[Qoq,Qop]
 congr 1
 funext r
 show(QeT (0+(r:Int)).toNat ns.length (stF ns)).map pairD=_;rw[show(0+(r:Int)).toNat=r by omega]
theorem Qvh{ns:List Int}:(if(1:Int) > ns.getLastD 0 then 1 else ns.getLastD 0)=(sH ns:Int):=by
 unfold sH;split<;>omega
theorem Qg8(g:Int×Int->Bool)(cs:List (Int×Int)):(cs.map pairD).filterMap (λd=>if g (toP d)=true then some d else none)=(cs.filter g).map pairD:=by
 rw[Qct];exact Qri (p:=g) (k:=pairD) λp _=>rfl
theorem QkN{items:List PyData}{wg wg2:DG}{wt wt2:DT}{wi2:DI}{we:DE}{δ:Sts}{Q:PyData->Prop}(G:PyData->List PyData)(k:Nat)(hl:(items.flatMap G).length<=k)
  (h:∀d∈items,∀(acc:List PyData)(N:List PyData->Prop),acc.length+(G d).length<=k->N (acc++G d)->wg d δ λδ4=>wt δ4 (λb=>if b=true then wi2 δ4 (λitems2=>InR items2 wg2 wt2 we δ4 acc N) XF else N acc) XF)(q:Q (.list (items.flatMap G))) :
  Qhl items wg wt wi2 wg2 wt2 we δ Q:=by
 unfold Qhl;refine⟨λi acc=>acc=(items.take i).flatMap G,by simp,λi acc d hd e=>?_,λacc e=>by rw[e,ZM];exact q⟩;have e:acc=(items.take i).flatMap G:=e;have hs:(items.take (i+1)).flatMap G=(items.take i).flatMap G++G d:=by
  rw[Zf,hd,Qcd];simp
 refine h d (QM hd) acc _ ?_ (by show acc++G d=_;rw[hs,e])
 have h1:(items.flatMap G).length=((items.take (i+1)).flatMap G).length+((items.drop (i+1)).flatMap G).length:=by
  rw[<- QF,<- Qcd,List.take_append_drop]
 rw[hs,<- e,QF] at h1;omega
end Rk
namespace L2
section
variable{X:Cx}
end
end L2
namespace Dl
open L2 _root_.Rd Rk
end Dl
namespace Rv
section
variable{prog:QD}{w:Je}{A:Q5}{E:Value->Shared->Prop}{s:Shared}
end
end Rv
namespace L2
section
variable{X:Cx}{tg:QL}
end
section
variable{X:Cx}
end
end L2
namespace Dl
open L2 _root_.Rd Rk
section
variable{X:Cx}{E:XK}{st:ZA}{i:Nat}{we:DE}
end
end Dl
namespace Rk
open L2 _root_.Rd Dl Rt
def Qjg(h:Nat)(F:Nat->Int):List PyData:=(Q9 (h+1)).map λ(k:Nat)=>.int (F k)
theorem Qej{h k:Nat}{F:Nat->Int}(hk:k<=h):(Qjg h F)[k]? = some (.int (F k)):=by
 unfold Qjg;rw[Qz,JV (by omega)];rfl
theorem Qcy(h:Nat)(F:Nat->Int):(Qjg h F).length=h+1:=by unfold Qjg;rw[Qg,Ja]
theorem QhI{h:Nat}{F G:Nat->Int}(e:∀k,k<=h->F k=G k):Qjg h F=Qjg h G:=by
 unfold Qjg;refine Zi λk hk=>?_
 rw[e k (by have:=JI.mp hk;omega)]
theorem QlQ{h j:Nat}{F:Nat->Int}{v:Int}(hj:j<=h):(Qjg h F).set j (.int v)=Qjg h (λk=>if k=j then v else F k):=by
 apply QaB
 intro k;rw[QaA];by_cases z:j=k
 ·subst z;rw[if_pos rfl,if_pos (by rw[Qcy];omega),Qej hj,if_pos rfl]
 ·rw[if_neg z];by_cases z2:k<=h
  ·rw[Qej z2,Qej z2,if_neg (λe=>z e.symm)]
  ·rw[JA (by rw[Qcy];omega),JA (by rw[Qcy];omega)]
theorem QoN(h:Nat):(Qv h [Qe 0]).flatten=Qv h (.int 0):=by
 induction h with
 |zero=>rfl
 |succ h ih=>rw[Jm,JW,ih];rfl
theorem QdR{α β:Type}{f g:α->List β}:∀{xs:List α},(∀x∈xs,f x=g x)->xs.flatMap f=xs.flatMap g
 |[],_=>rfl
 |x::xs,h=>by rw[Qdf,Qdf,h x (.head _),QdR λy hy=>h y (.tail _ hy)]
def Bds(h w:Nat)(cs:List (Int×Int)):Prop:=h<=6/\w<=6/\∀p∈cs,0<=p.1/\p.1<h/\0<=p.2/\p.2<w
def QnX:List (Int×Int)->List (Int×Int)->Prop
 |[],[]=>False
 |[],_::_=>True
 |_::_,[]=>False
 |p::L,q::M=>plt p q∨(p=q/\QnX L M)
theorem Qkc:∀L:List (Int×Int),¬QnX L L
 |[],h=>h
 |p::L,h=>by
  rcases h with z | z
  ·rcases z with z | z<;>omega
  ·exact Qkc L z.2
theorem Qkd:∀{S T:List (Int×Int)}(c d:Int×Int),S.length=T.length->QnX S T->QnX (S++[c]) (T++[d])
 |[],[],_,_,_,h=>h.elim
 |[],_::_,_,_,e,_=>by cases e
 |_::_,[],_,_,e,_=>by cases e
 |p::S,q::T,c,d,e,h=>by
  rcases h with z | z
  ·exact .inl z
  ·exact .inr ⟨z.1,Qkd c d (by simpa using e) z.2⟩
theorem Qg2:∀(S:List (Int×Int)){c d:Int×Int},plt c d->QnX (S++[c]) (S++[d])
 |[],c,d,h=>.inl h
 |p::S,c,d,h=>.inr ⟨rfl,Qg2 S h⟩
def rbI(S:List (Int×Int)):Int:=match S.getLast? with
 |some c=>c.1+1
 |none=>0
def fol(cs S:List (Int×Int)):List (Int×Int):=cs.filter λc=>decide (rbI S<=c.1) && !decide (c.2∈S.map (·.2))
def evS(cs:List (Int×Int)):Nat->List (List (Int×Int))
 |0=>[[]]
 |k+1=>(evS cs k).flatMap λS=>(fol cs S).map λc=>S++[c]
structure Std (cs L:List (Int×Int)):Prop where
 sub:∀p∈L,p∈cs
 rows:L.Pairwise λp q=>p.1<q.1
 cols:(L.map (·.2)).Nodup
theorem Std.nil{cs:List (Int×Int)}:Std cs []:=⟨λp hp=>(nomatch hp),.nil,.nil⟩
theorem Std.init{cs S:List (Int×Int)}{c:Int×Int}(h:Std cs (S++[c])):Std cs S/\c∈cs/\(∀p∈S,p.1<c.1)/\c.2∉S.map (·.2):=by
 have r:=YJ.mp h.rows;have k:=h.cols;rw[ZC] at k;have k:=Yv.mp k;refine⟨⟨λp hp=>h.sub p (QbG _ hp),r.1,k.1⟩,h.sub c (by simp),λp hp=>r.2.2 p hp c (by simp),λz=>?_⟩;exact k.2.2 c.2 z c.2 (by simp) rfl
theorem Std.snoc{cs S:List (Int×Int)}{c:Int×Int}(h:Std cs S)(h1:c∈cs)(h2:∀p∈S,p.1<c.1)(h3:c.2∉S.map (·.2)):Std cs (S++[c]):=by
 refine⟨λp hp=>?_,YJ.mpr ⟨h.rows,by simp,λp hp q hq=>?_⟩,?_⟩
 ·rcases JY.mp hp with z | z
  ·exact h.sub p z
  ·rw[QY.mp z];exact h1
 ·rw[QY.mp hq];exact h2 p hp
 ·rw[ZC];refine Yv.mpr ⟨h.cols,by simp,λa ha b hb e=>?_⟩;have hb:b=c.2:=by simpa using hb
  rw[e,hb] at ha;exact h3 ha
theorem Qm1{S:List (Int×Int)}(h:S.Pairwise λp q=>p.1<q.1){c:Int×Int}:(∀p∈S,p.1<c.1)∨¬rbI S<=c.1∨(S=[] ):=by
 by_cases z:S=[]
 ·exact .inr (.inr z)
 ·by_cases y:rbI S<=c.1
  ·refine .inl λp hp=>?_
   obtain⟨T,d,rfl⟩:∃T d,S=T++[d]:=⟨S.dropLast,S.getLast z,(YM z).symm⟩
   have y:d.1+1<=c.1:=by unfold rbI at y;rw[QbH] at y;simpa using y
   rcases JY.mp hp with q | q
   ·have:=(YJ.mp h).2.2 p q d (by simp);omega
   ·rw[QY.mp q];omega
  ·exact .inr (.inl y)
theorem Qvk{S:List (Int×Int)}{c:Int×Int}(h:∀p∈S,p.1<c.1)(h0:0<=c.1):rbI S<=c.1:=by
 unfold rbI;cases e:S.getLast? with
 |none=>exact h0
 |some d=>
  have:=h d (QiH e);show d.1+1<=c.1;omega
theorem QdN{cs:List (Int×Int)}(h0:∀p∈cs,0<=p.1):∀(k:Nat)(L:List (Int×Int)),L∈evS cs k↔Std cs L/\L.length=k
 |0,L=>by
  constructor
  ·intro h;rw[QY.mp h];exact⟨.nil,rfl⟩
  ·rintro⟨_,h⟩;cases L with
   |nil=>exact .head _
   |cons a b=>cases h
 |k+1,L=>by
  show L∈(evS cs k).flatMap (λS=>(fol cs S).map λc=>S++[c])↔_;rw[QaP];constructor
  ·rintro⟨S,hS,hL⟩;obtain⟨c,hc,rfl⟩:=QU.mp hL;obtain⟨st,hl⟩:=(QdN h0 k S).mp hS;have hc:=JJ.mp hc;have hc2:=QC.mp hc.2;refine⟨st.snoc hc.1 ?_ (by simpa using hc2.2),by rw[QF,hl];rfl⟩;rcases Qm1 st.rows (c:=c) with z | z | z
   ·exact z
   ·exact absurd (of_decide_eq_true hc2.1) z
   ·rw[z];exact λp hp=>(nomatch hp)
  ·rintro⟨st,hl⟩;have hne:L≠[]:=λe=>by rw[e] at hl;cases hl
   obtain⟨S,c,rfl⟩:∃T d,L=T++[d]:=⟨L.dropLast,L.getLast hne,(YM hne).symm⟩
   obtain⟨s1,s2,s3,s4⟩:=st.init;refine⟨S,(QdN h0 k S).mpr ⟨s1,by rw[QF] at hl;exact Nat.succ.inj hl⟩,QU.mpr ⟨c,JJ.mpr ⟨s2,?_⟩,rfl⟩⟩;rw[Ju];exact⟨decide_eq_true (Qvk s3 (h0 c s2)),by simpa using s4⟩
theorem Qfo{cs:List (Int×Int)}(hp:cs.Pairwise plt)(h0:∀p∈cs,0<=p.1):∀k,(evS cs k).Pairwise QnX
 |0=>Qgy _ _
 |k+1=>by
  show((evS cs k).flatMap λS=>(fol cs S).map λc=>S++[c]).Pairwise QnX;rw[Qil];refine⟨λS _=>?_,?_⟩
  ·exact Qnu.mpr ((ZN _ hp).imp λh=>Qg2 S h)
  ·refine QuX (λ{S T} hS hT h=>?_) (Qfo hp h0 k);intro x hx y hy;obtain⟨c,_,rfl⟩:=QU.mp hx;obtain⟨d,_,rfl⟩:=QU.mp hy;exact Qkd c d (by rw[((QdN h0 k S).mp hS).2,((QdN h0 k T).mp hT).2]) h
theorem Qb1{cs:List (Int×Int)}(h0:∀p∈cs,0<=p.1):∀(i:Nat)(L:List (Int×Int)),L∈QfP cs i↔Std cs L/\∀p∈L,p.1<(i:Int)
 |0,L=>by
  constructor
  ·intro h;rw[QY.mp h];exact⟨.nil,λp hp=>(nomatch hp)⟩
  ·rintro⟨s,h⟩;cases L with
   |nil=>exact .head _
   |cons a b=>
    have h1:=h a (.head _);have h2:=h0 a (s.sub a (.head _));exact absurd h1 (by show ¬a.1<0;omega)
 |i+1,L=>by
  show L∈QfP cs i++(QfP cs i).flatMap (Qnd (QlP cs i))↔_;rw[JY,QaP];constructor
  ·rintro(h | ⟨S,hS,hL⟩)
   ·obtain⟨a,b⟩:=(Qb1 h0 i L).mp h;exact⟨a,λp hp=>by have:=b p hp;omega⟩
   ·obtain⟨c,hc,hn,rfl⟩:=Qbw.mp hL;obtain⟨a,b⟩:=(Qb1 h0 i S).mp hS;have hc:=JJ.mp hc;have hr:c.1=(i:Int):=of_decide_eq_true hc.2;refine⟨a.snoc hc.1 (λp hp=>by rw[hr];exact b p hp) hn,λp hp=>?_⟩;rcases JY.mp hp with z | z
    ·have:=b p z;omega
    ·rw[QY.mp z,hr];omega
  ·rintro⟨s,h⟩;by_cases z:L=[]
   ·left
    rw[z];exact Qi0 cs i
   ·obtain⟨S,c,rfl⟩:∃T d,L=T++[d]:=⟨L.dropLast,L.getLast z,(YM z).symm⟩
    obtain⟨s1,s2,s3,s4⟩:=s.init;have hc:=h c (by simp);by_cases y:c.1=(i:Int)
    ·right
     exact⟨S,(Qb1 h0 i S).mpr ⟨s1,λp hp=>by have:=s3 p hp;omega⟩,Qbw.mpr ⟨c,JJ.mpr ⟨s2,decide_eq_true y⟩,s4,rfl⟩⟩
    ·left
     refine(Qb1 h0 i _).mpr ⟨s,λp hp=>?_⟩;rcases JY.mp hp with q | q
     ·have:=s3 p q;omega
     ·rw[QY.mp q];omega
theorem QnD{cs:List (Int×Int)}(nd:cs.Nodup)(h0:∀p∈cs,0<=p.1):∀i,(QfP cs i).Nodup
 |0=>by show[([]:List (Int×Int))].Nodup;simp
 |i+1=>by
  have ih:=QnD nd h0 i;show(QfP cs i++(QfP cs i).flatMap (Qnd (QlP cs i))).Nodup;refine Yv.mpr ⟨ih,?_,λL hL M hM e=>?_⟩
  ·show List.Pairwise _ _;rw[Qil];refine⟨λS _=>?_,ih.imp λ{S T} hne x hx y hy e=>?_⟩
   ·unfold Qnd;refine Qnu.mpr ((ZN _ (ZN _ nd)).imp λ{c d} hne e=>hne ?_);have:=List.append_inj_right' e rfl
    simpa using this
   ·obtain⟨c,_,_,rfl⟩:=Qbw.mp hx;obtain⟨d,_,_,rfl⟩:=Qbw.mp hy;exact hne (List.append_inj_left' e rfl)
  ·obtain⟨S,hS,hM⟩:=QaP.mp hM;obtain⟨c,hc,_,rfl⟩:=Qbw.mp hM;have hr:c.1=(i:Int):=of_decide_eq_true (JJ.mp hc).2;have:=((Qb1 h0 i L).mp hL).2 c (by rw[e];simp);omega
end Rk
namespace Dl
open L2 _root_.Rd Rk
section
variable{X:Cx}{E:XK}{st:ZA}{we:DE}
end
end Dl
namespace Rk
open L2 _root_.Rd Dl Rt
structure GB (h w:Nat) (cs:List (Int×Int)):Prop where
 bds:Bds h w cs
 srt:cs.Pairwise plt
 few:(QfP cs h).length<=200000
theorem GB.r0{h w:Nat}{cs:List (Int×Int)}(g:GB h w cs):∀p∈cs,0<=p.1:=λp hp=>(g.bds.2.2 p hp).1
theorem GB.rh{h w:Nat}{cs:List (Int×Int)}(g:GB h w cs):∀p∈cs,p.1<(h:Int):=λp hp=>(g.bds.2.2 p hp).2.1
theorem Qrk{h w:Nat}{cs:List (Int×Int)}(g:GB h w cs)(k:Nat):(evS cs k).Perm ((QfP cs h).filter λL=>L.length == k):=by
 have nd:=QnD (g.srt.imp QsE) g.r0 h;have s2:=Qfo g.srt g.r0 k;have n2:(evS cs k).Nodup:=QuY (R:=QnX) (S:=λa b=>a≠b) (λ{S T} z (e:S=T)=>Qkc S (by rw[<- e] at z;exact z)) s2;refine(List.perm_ext_iff_of_nodup n2 (ZN _ nd)).mpr λL=>?_
 rw[JJ,QdN g.r0,Qb1 g.r0];constructor
 ·rintro⟨a,b⟩;exact⟨⟨a,λp hp=>g.rh p (a.sub p hp)⟩,by simpa using b⟩
 ·rintro⟨⟨a,_⟩,b⟩;exact⟨a,by simpa using b⟩
theorem QtL{h w:Nat}{cs:List (Int×Int)}(g:GB h w cs)(k:Nat):(evS cs k).length<=200000:=by
 rw[(Qrk g k).length_eq];exact QQ (Yz _ _) g.few
def stL:PyData->List (Int×Int)
 |.tuple ds=>ds.map toP
 |_=>[]
theorem Qsg(L:List (Int×Int)):stL (stT L)=L:=Qfb L
def QoL:DF:=λargs R _=>∃S:List (Int×Int),args=[.v (stT S)]/\R (.int (rbI S))
def QvZ:DF:=λargs R _=>∃(h w:Nat)(cs S:List (Int×Int)),args=[.v (bdD h w cs),.v (stT S)]/\R (.list ((fol cs S).map pairD))
def evD:DF:=λargs R _=>∃(h w:Nat)(cs:List (Int×Int))(k:Nat),args=[.v (bdD h w cs),.v (.int k)]/\GB h w cs/\k<=6/\R (.list ((evS cs k).map stT))
theorem Qp6{S:List (Int×Int)}{c:Int×Int}(h:S.getLast? = some c):atI (S.map pairD) (-1)=some (pairD c):=by
 obtain⟨xs,rfl⟩:=QfK.mp h;rw[ZC];exact Qhk _ _
def evG(cs:List (Int×Int))(d:PyData):List PyData:=(fol cs (stL d)).map λc=>stT (stL d++[c])
theorem Qkx(cs:List (Int×Int))(k:Nat):((evS cs k).map stT).flatMap (evG cs)=(evS cs (k+1)).map stT:=by
 show _=((evS cs k).flatMap λS=>(fol cs S).map λc=>S++[c]).map stT;rw[Qoq,Qop];refine QdR λS _=>?_
 unfold evG;rw[Qsg,Jj];rfl
end Rk
namespace L2
section
variable{X:Cx}
def Qsl(K:PySem.W.Frag):List V->Hp->VK->Prop:=λxs H Q=>∃(p:Addr)(ns:List Int),xs=[.ref p]/\SqT K H p (ns.map V.int)/\Q (.int ns.sum) H
theorem Qc8(hc:X.calm=true):CallR X (.builtin "sum") (Qsl X.K):=by
 intro pins s σ H xs us Q I r h;obtain⟨p,ns,rfl,hp,q⟩:=h;obtain⟨u,rfl,ru⟩:=vals1 r;cases ru;obtain⟨its,rv,pl,hz⟩:=I.tuple hp;have hl:s.heap.IsTuple p its.toArray:=pl;have hi:Qbj its ns:=intsAre_of rv;obtain⟨ys,hx⟩:=hi.allInts.items;have hlt:p<s.heap.objs.size:=by obtain⟨_,e,_⟩:=hl;exact Qi e
 refine call_sum_walkG (Zz hl ?_);refine⟨s.heap.objs.size,[s.heap.objs.size,p],[s.heap.objs.size],its.toArray.size,_,_,numAt ys,rfl,Walks.tuple (A:=X.A.in1) (I.ok.hd hc) _ p (Qs hlt) its.toArray,⟨⟨_,Qp _ rfl,rfl,rfl⟩,?_⟩,?_,?_,λh' tk t' hk=>?_⟩
 ·obtain⟨o,e,r⟩:=hl;exact⟨o,Qd _ e,r⟩
 ·intro b hb;have:(s.heap.push { cls:=.type "tuple_iterator",data:=.fields #[.ref p,.int 0 0] }).objs.size=s.heap.objs.size+1:=by simp[Heap.push]
  show b<(s.heap.push { cls:=.type "tuple_iterator",data:=.fields #[.ref p,.int 0 0] }).objs.size;rw[this];rcases Qx.mp hb with e | e
  ·rw[e];exact QrJ _
  ·rw[QY.mp e];exact Yy hlt
 ·intro i v hv;rw[hx] at hv;exact intItems_at hv
 ·have e1:ns=ys.toList.map (·.1):=by
   rw[<- nums_intItems,<- hx];exact(show numsOf its.toArray.toList=ns from hi.numsOf).symm
  have e2:preSum (numAt ys) its.toArray.size=ns.sum:=by
   have:its.toArray.size=ys.size:=by rw[hx];simp[intItems]
   rw[this,preSum_eq,List.take_of_length_le (by simp),e1]
  rw[e2];exact⟨.int _,H,I.kept (Qht hk),⟨_,rfl⟩,q⟩
end
end L2
namespace Dl
open L2 _root_.Rd Rk Rt
@[irreducible] def QlC:List PyData->(PyData->Prop)->Prop
 |[.tuple ds],Q=>∃ns,Y9 ds=some ns/\Q (.int ns.sum)
 |_,_=>False
theorem Qgq{K:PySem.W.Frag}:Qay (Qsl K) QlC:=λA P H vs ds R Q ln dm q h k=>by
 unfold QlC at h;split at h
 ·obtain⟨v,rfl,hv⟩:=pd1 q;obtain⟨bs,hb,hR⟩:=h;rw[Qb7 hb] at hv;obtain⟨l,xs,rfl,e,qq⟩:=hv.tuple;rw[QaM qq] at e;exact⟨l,bs,rfl,SqT.of e,k _ hR _ H (Same.refl H) (.int _) ZI⟩
 ·exact h.elim
theorem QfX{ds:List PyData}{Q:PyData->Prop}(ns:List Int)(h:ds=[.tuple (ns.map Qe)])(q:Q (.int ns.sum)):QlC ds Q:=by
 subst h;unfold QlC;exact⟨ns,ints_map ns,q⟩
end Dl
namespace L2
open Sem (wp)
open Builtin
theorem QbY:fillsNumberSlot (.type "tuple") "mul" = pure false:=
 PySem.fillsNumberSlot_seq (id := "tuple.__mul__") (r:=some (.builtin "tuple.__rmul__")) QeY.lookup (by decide +kernel) QrZ.lookup (by decide +kernel)
theorem Qek:seqRepeat? (.type "tuple")=pure (some (.builtin "tuple.__mul__")):=by
 unfold seqRepeat?;rw[PySem.seqSlot_of (T := "tuple") (name := "__mul__") (id := "tuple.__mul__") QeY.lookup (by decide +kernel),PySem.seqSlot_of (T := "tuple") (name := "__rmul__") (id := "tuple.__rmul__") QrZ.lookup (by decide +kernel)];rfl
theorem Qf2(a:Int)(t:Tok)(l:Addr)(items:Array Value)(n:Nat)(dd:Option Addr)(sl:Array (Option Value)) :
  Meets (Qbl.«int.__rmul__» ⟨[.int a t,.ref l],[]⟩) (λ_ R s=>s.heap.get? l=some { cls:=.type "tuple",dict:=dd,data:=.seq items n,slots:=sl }/\R (.ok (.ret Qih)) s):=
 .of_wp λprog w A R s h=>by obtain⟨hp,g,d,tk,os⟩:=s;obtain⟨hl,h⟩:=h;wp_walk;exact⟨_,rfl,h⟩
theorem QhS(l:Addr)(items:Array Value)(n:Nat)(dd:Option Addr)(sl:Array (Option Value))(x:Int)(u:Tok)(h0:¬(x < -(2^63)||x≥2^63)=true)(h1:¬(items.isEmpty||x == 1)=true)(h2:¬(decide (x<=0)||items.isEmpty)=true)(h3:¬(items.size*x > (2^63 - 1) / 8))(h4:¬Qu1 (items.size*x)=true)(h5:((Qv x.toNat items).foldl (·++·) #[]).size<=sizeLine) :
  Meets (Qbl.«tuple.__mul__» ⟨[.ref l,.int x u],[]⟩) (λ_ R s=>s.heap.get? l=some { cls:=.type "tuple",dict:=dd,data:=.seq items n,slots:=sl }/\R (.ok (.ret (JG s.heap.objs.size))) { s with heap:=s.heap.push { cls:=QcG "tuple",data:=Data.seq ((Qv x.toNat items).foldl (·++·) #[]) },toks:=s.toks }):=
 .of_wp λprog w A R s h=>by
  obtain⟨hp,g,d,tk,os⟩:=s;obtain⟨hl,h⟩:=h;have f1:=AutoSeq1.idx_int
  wp_walk using Zp hl
  rw[if_neg h0]
  wp_walk using Zp hl
  rw[if_neg h3]
  wp_walk using Zp hl
  exact⟨_,rfl,h⟩
section
variable{X:Cx}
def Qsp(K:PySem.W.Frag):R2:=λx y H Q=>∃a k xs,x=.ref a/\y=.int k/\SqT K H a xs/\xs≠[]/\2<=k/\k<=1000/\xs.length*k.toNat<=1000000/\∀p,H p=none->Q (.ref p) (upd H p (.tup (Qv k.toNat xs).flatten))
theorem QjI:OpR X (binaryOp .Mult) (Qsp X.K):=by
 intro pins s σ H x y v u Q I rx ry h;obtain⟨a,k,xs,rfl,rfl,ha,hx,k2,kM,hz,q⟩:=h;cases rx;obtain⟨t,rfl⟩:=ry;obtain⟨its,r,p1,_⟩:=I.tuple ha;obtain⟨⟨cls,dd,data,sl⟩,ho,hc,n,hd⟩:=id p1;simp only at hc hd;subst hc hd;have hl:=r.length;have hne:its≠[]:=λz=>hx (r.nil_iff.mp z)
 have hem:its.toArray.isEmpty=false:=by simpa using hne
 have hnew:QfR (λx1 x2=>x1++x2) #[] (Qv k.toNat its.toArray)=(Qv k.toNat its).flatten.toArray:=by
  have:=foldl_rep its k.toNat [];rw[QeL] at this;exact this
 have hlen:(Qv k.toNat its).flatten.length<=1000000:=by rw[Qgg,QiF,<- hl];exact hz
 have hM:(1000000:Nat)<=sizeLine:=by show 1000000<=2^24;decide
 have hk:((its.toArray.size:Int))*k<=1000000:=by
  rw[Qo,<- hl];have:((xs.length*k.toNat:Nat):Int)<=1000000:=by omega
  rw[Int.natCast_mul,Qlr (by omega)] at this;exact this
 refine Qiz (T := "tuple") (U := "int") (by decide) ⟨_,ho,rfl⟩ (λs'=>QeU s' k t) QbY Qu0 QbK Qek Quo.lookup
  (Qa5 QbK (QeU s k t) Quq (Qr1 _ _) (Qf2 k t a its.toArray n dd sl)
   ⟨ho,rfl,⟨_,ho,rfl⟩,Qa5 QeY ⟨_,ho,rfl⟩ F.entry_tuple_mul (F.args_tuple_mul_2 _ _) (QhS a its.toArray n dd sl k t (by simp;omega) (by rw[hem];simp;omega) (by rw[hem];simp;omega) (by omega) (by unfold Tuple.tupleTooMany;rw[decide_eq_true_eq];omega) (by rw[hnew,Qo];omega)) ⟨ho,?_⟩⟩)
 rw[hnew];refine⟨.ref s.heap.objs.size,_,I.laid (t':=s.toks) (o:=.tup (Qv k.toNat xs).flatten) (λb ob q=>Qd _ q) (Ql _) ?_,rfl,q _ (I.hok.fresh (Ql _))⟩;exact⟨by rw[Qgg,QiF];omega,_,r.rep k.toNat,TupN.new _ _⟩
end
end L2
namespace Dl
open L2 _root_.Rd Rk Rt
def Qvi:PyData->PyData->(PyData->Prop)->Prop
 |.tuple a,.int k,Q=>(a≠[]/\2<=k/\k<=1000/\a.length*k.toNat<=1000000)/\Q (.tuple (Qv k.toNat a).flatten)
 |_,_,_=>False
theorem QjX{K:PySem.W.Frag}:OpD (Qsp K) Qvi:=λA P H x y d1 d2 R Q ln dm hx hy h k=>by
 cases d1<;>cases d2<;>first | exact h.elim | skip
 obtain⟨l1,xs,rfl,e1,q1⟩:=hx.tuple;rw[hy.int];obtain⟨⟨h1,h2,h3,h4⟩,h5⟩:=h;have ql:=q1.length;refine⟨l1,_,xs,rfl,rfl,SqT.of e1,λz=>h1 ?_,h2,h3,by rw[ql];exact h4,λp hp=>?_⟩
 ·subst z;exact List.length_eq_zero_iff.mp ql.symm
 ·exact k _ h5 _ _ (Jk hp) (Qdr dm (Jk hp) Jc (q1.rep _)) (YY hp)
end Dl
namespace Rk
open L2 _root_.Rd Dl Rt
theorem QjY:∀{ns:List Int},nfI ns=true->∀x∈ns,x<=ns.getLastD 0
 |[],_,_,h=>(nomatch h)
 |[a],_,x,h=>by rw[QY.mp h];exact Int.le_refl _
 |a::b::r,hn,x,hx=>by
  have h2:=QC.mp (show(decide (a<=b)&&nfI (b::r))=true from hn);have ih:=QjY (ns:=b::r) h2.2;have e:(a::b::r).getLastD 0=(b::r).getLastD 0:=by rw[Zx,Zx,Qgz]
  rw[e];rcases Qx.mp hx with z | z
  ·rw[z];exact Qdq (of_decide_eq_true h2.1) (ih b (.head _))
  ·exact ih x z
theorem QkM(p:Nat->Bool)(h:Nat):(Q9 (h+1)).countP p=(Q9 h).countP p+if p h=true then 1 else 0:=by
 rw[QrM,Qlq,List.countP_singleton]
theorem QcI(g:Nat->Nat)(p:Nat->Bool):∀xs:List Nat,(xs.map λc=>g c+if p c=true then 1 else 0).sum=(xs.map g).sum+xs.countP p
 |[]=>rfl
 |x::xs=>by
  rw[Zc,QaJ,QcI g p xs,Zc,QaJ,List.countP_cons];omega
theorem Qfl(w:Nat)(f:Nat->Nat->Bool):∀h,(YD h w f).length=((Q9 w).map λc=>(Q9 h).countP λr=>f r c).sum
 |0=>by
  show 0=_;have:((Q9 w).map λc=>(Q9 0).countP λr=>f r c)=Qv w 0:=by
   rw[show(λc=>(Q9 0).countP λr=>f r c)=λ_=>0 from rfl,QrN,Ja]
  rw[this];simp
 |h+1=>by
  rw[Qak,QF,Qfl w f h];have:((Q9 w).map λc=>(Q9 (h+1)).countP λr=>f r c)=(Q9 w).map λc=>((Q9 h).countP λr=>f r c)+if f h c=true then 1 else 0:=Zi λc _=>QkM (λr=>f r c) h
  rw[this,QcI]
  congr 1
  unfold QeT;rw[Qg,List.countP_eq_length_filter]
theorem Qn8(m:Int)(h0:0<=m):∀h:Nat,m<=(h:Int)->(((Q9 h).countP λ(r:Nat)=>decide ((r:Int)<m):Nat):Int)=m
 |0,hm=>by show(0:Int)=m;omega
 |h+1,hm=>by
  rw[QkM];by_cases z:(h:Int)<m
  ·have e:(Q9 h).countP (λ(r:Nat)=>decide ((r:Int)<m))=h:=by
    have:(Q9 h).countP (λ(r:Nat)=>decide ((r:Int)<m))=(Q9 h).length:=List.countP_eq_length.mpr λr hr=>decide_eq_true (by have:=JI.mp hr;omega)
    rw[this,Ja]
   rw[e,if_pos (decide_eq_true z)];omega
  ·rw[if_neg (by simpa using z),Nat.add_zero];exact Qn8 m h0 h (by omega)
theorem Qe2:∀(ns:List Int)(g:Nat->Nat),(∀c,c<ns.length->((g c:Nat):Int)=ns.getD c 0)->((((Q9 ns.length).map g).sum:Nat):Int)=ns.sum
 |[],_,_=>rfl
 |x::ns,g,h=>by
  rw[Q4,List.range_succ_eq_map,Zc,QaJ,Jj,QaJ];have ih:=Qe2 ns (g∘Nat.succ) λc hc=>by
   have:=h (c+1) (by rw[Q4];omega);exact this
  have h0:=h 0 (by rw[Q4];omega);have h0:((g 0:Nat):Int)=x:=h0;omega
theorem getD_mem{ns:List Int}{c:Nat}(h:c<ns.length):ns.getD c 0∈ns:=by
 rw[Q2,Qm h];exact Qdp h
theorem Qi3{ns:List Int}(h:Stairs ns):ns.sum=((stC ns).length:Int):=by
 unfold stC;rw[Qfl];refine(Qe2 ns _ λc hc=>?_).symm;have hm:=getD_mem hc;have b:=h.bd _ hm;have l:=QjY h.nf _ hm;exact Qn8 _ b.1 (sH ns) (by unfold sH;omega)
theorem Qfn{ns:List Int}(h:Stairs ns):GB (sH ns) ns.length (stC ns):=by
 have a:=QoK h;have b:=h.l6;refine⟨⟨a.2,b,λp hp=>Qfr hp⟩,Qe7 ns.length (stF ns) (sH ns),QQ (QgE (λr=>Qf0 ns.length (sH ns) (stF ns) r) (sH ns)) ?_⟩;have c:(ns.length+1)^sH ns<=7^sH ns:=Nat.pow_le_pow_left (by omega) _;have d:7^sH ns<=7^6:=Nat.pow_le_pow_right (by decide) a.2;have e:(7:Nat)^6=117649:=rfl;omega
def wt(cs L:List (Int×Int)):Nat:=(cs.filter (Qm5 L)).length
def wtR(cs:List (Int×Int))(Ls:List (List (Int×Int))):List PyData:=Qjg cs.length (λk=>((Ls.countP λL=>wt cs L == k:Nat):Int))
theorem Qot(cs L:List (Int×Int)):wt cs L<=cs.length:=Yz _ _
theorem Qr3{cs L:List (Int×Int)}{Ls:List (List (Int×Int))}{j:Nat}(e:Ls[j]? = some L):(wtR cs (Ls.take j)).set (wt cs L) (.int ((((Ls.take j).countP λM=>wt cs M == wt cs L:Nat):Int)+1))=wtR cs (Ls.take (j+1)):=by
 unfold wtR;rw[QlQ (Qot cs L)];refine QhI λk _=>?_
 rw[Zf,e,Qlq];show _=(((Ls.take j).countP (λM=>wt cs M == k)+[L].countP (λM=>wt cs M == k):Nat):Int);by_cases z:k=wt cs L
 ·subst z;rw[if_pos rfl,List.countP_cons_of_pos (by simp)];show _=((_+1:Nat):Int);omega
 ·rw[if_neg z,List.countP_cons_of_neg (by simpa using λe=>z e.symm)];rfl
theorem Qos(cs:List (Int×Int)){n:Int}(hn:n=cs.length):(Qv ((n+1).toNat) [Qe 0]).flatten=wtR cs []:=by
 rw[QoN,show(n+1).toNat=cs.length+1 by omega];unfold wtR Qjg;rw[show(λ(k:Nat)=>Qe ((([]:List (List (Int×Int))).countP λL=>wt cs L == k:Nat):Int))=λ_=>.int 0 from rfl,QrN,Ja]
theorem Qr4{cs:List (Int×Int)}{Ls:List (List (Int×Int))}(L:List (Int×Int)):(wtR cs Ls)[wt cs L]? = some (.int ((Ls.countP λM=>wt cs M == wt cs L:Nat):Int)):=Qej (Qot cs L)
theorem Qou(cs:List (Int×Int))(Ls:List (List (Int×Int))):(wtR cs Ls).length=cs.length+1:=Qcy _ _
def wtD:DF:=λargs R _=>∃(h w:Int)(cs L:List (Int×Int)),args=[.v (bdD h w cs),.v (stT L)]/\R (.int (wt cs L))
end Rk
namespace Dl
open L2 _root_.Rd Rk
section
variable{X:Cx}{E:XK}
end
end Dl
namespace L2
section
variable{X:Cx}{pins:List (Addr×Obj)}{σ:St}{H H3:Hp}{s3:Shared}{M:List Str}{scope:ZK}{cap:List (Option Nat)}{fp:List Addr}{h4:JM}{t4:Nat}
end
section
variable{X:Cx}{pins:List (Addr×Obj)}{σ:St}{H:Hp}
end
end L2
namespace Rk
open L2 _root_.Rd Dl
end Rk
namespace Dl
open L2
section
variable{X:Cx}{E:XK}
end
end Dl
namespace Rk
open L2 _root_.Rd Dl Rt
end Rk
namespace Rk
open L2 _root_.Rd
def top(i:Nat):ZA:=PySem.Challenge.pw_rooklands_k74_no_weights.main.body.getD i (.Pass ⟨0,0,0,0⟩)
abbrev Qdu:ZA:=top 22
abbrev QbQ:ZA:=top 23
abbrev QbT:ZA:=top 24
abbrev Qdx:ZA:=top 25
abbrev QdC:ZA:=top 28
abbrev Qdw:ZA:=top 29
abbrev QbR:ZA:=top 31
abbrev QhE:ZA:=top 32
abbrev QbS:ZA:=top 33
abbrev QdA:ZA:=top 35
abbrev QhH:ZA:=top 37
abbrev Qdv:ZA:=top 39
abbrev QdE:ZA:=top 40
abbrev QdB:ZA:=top 41
abbrev sFol:ZA:=top 42
abbrev QhC:ZA:=top 43
abbrev Qdz:ZA:=top 47
abbrev QdD:ZA:=top 48
abbrev QbU:ZA:=top 49
abbrev sByW:ZA:=top 50
abbrev Qdy:ZA:=top 51
abbrev sWt:ZA:=top 52
abbrev QhG:ZA:=top 53
abbrev QhF:ZA:=top 54
abbrev QhD:ZA:=top 55
abbrev Qb4:ZA:=top 57
abbrev lPot:ZA:=top 58
abbrev QhX:ZA:=top 59
abbrev Qb3:ZA:=top 60
abbrev QhZ:ZA:=top 61
abbrev QhW:ZA:=top 62
abbrev QhY:ZA:=top 63
abbrev sLaw:ZA:=top 64
section
variable{P:QD}{w:Je}{K:PySem.W.Frag}{mg:Str->Option Value}{base:JM}
theorem QlN:Jg ["_law_script", "_law_k"] ["_law_script", "_law_k"] (Qk Qb4):=⟨rfl,rfl,rfl,by decide +kernel,rfl,by decide +kernel,by decide +kernel⟩
theorem QjS{f:Addr}{fd:Qy}(F:Fun K "_law_cell_at" "_law_cell_at" Qb4 f fd)(T:GlbA mg):FnOk P w K mg base CX0 1 f fd ["_law_script", "_law_k"] (Qbp K):=by
 refine F.ok QlN (λvs H Q E h=>?_) (λcdv A outer s H vs Q E hr h=>?_)
 ·obtain⟨a,ns,k,rfl,_⟩:=h;rfl
 ·obtain⟨a,ns,n,rfl,hs,hl,h0,k⟩:=h;refine⟨_,Zr (Ql2 (Qem QpC (pv 1) (Qah QaH (by rfl) T.len YE (Ys (pv 0) Zu)) (Zv _)) (Qaf (QaW (QhM Qb5 (pv 0) (pv 1) (λ_ _=>rfl)))) Qen) (Qaf (QaW ZX)),?_⟩;refine⟨_,rfl,_,rfl,a,_,rfl,.inl hs,_,_,rfl,rfl,_,rfl,?_⟩;refine Qwx (λhlt=>?_) (λ_=>k 0);have hlt':n<(ns.map V.int).length:=of_decide_eq_true hlt;rw[Qg] at hlt';obtain⟨j,rfl⟩:=Int.eq_ofNat_of_zero_le h0;have hj:j<ns.length:=by omega
  refine⟨_,rfl,_,rfl,a,_,_,.int ns[j],rfl,rfl,hs,Zw ?_,k _⟩;rw[Qz,Qm hj];rfl
theorem QhB:Jg ["_law_cell", "_law_number", "_law_j", "_law_more"] ["_law_cell"] (Qk lPot):=⟨rfl,rfl,rfl,by decide +kernel,rfl,by decide +kernel,by decide +kernel⟩
theorem Qtg{f:Addr}{fd:Qy}(F:Fun K "_law_pot" "_law_pot" lPot f fd)(T:GlbA mg):FnOk P w K mg base CX0 1 f fd ["_law_cell"] Qsh:=by
 refine F.ok QhB (λvs H Q E h=>?_) (λcdv A outer s H vs Q E hr h=>?_)
 ·obtain⟨c,rfl,_⟩:=h;rfl
 ·obtain⟨c,rfl,k⟩:=h;refine⟨_,Zr (Ql2 (Qem QpE (pv 0) (Yr QgY ZX ZX) (Zv _)) (Qaf (QaW (QnS (Ys (Yr Qfc (pv 0) (Yr QgY ZX ZX)) Zu)))) Qen)
   (Zr (YR (i:=1) QhB.nd rfl (Q0 rfl) ZX)
   (Zr (QnP Zs rfl (Qe9 (by rfl) T.range (Ys ZX Zu)) (Qf7 (i:=2) QhB.nd rfl (Q0 rfl))
    (Zr (YR (i:=3) QhB.nd rfl (Q0 rfl) (Yr QgZ (Yr QdJ (Yr QdK (Yr QdK (Yr QgZ (pv 0) ZX) (Yr QdJ ZX (pv 2))) ZX) ZX) ZX))
    (Zr (YR (i:=3) QhB.nd rfl (Q0 rfl) (Yr QgZ (Yr QdK (Yr QdK (Yr QdJ (pv 3) (pv 3)) (Yr QdJ ZX (pv 2))) ZX) ZX))
    (Qaf (YR (i:=1) QhB.nd rfl (Q0 rfl) (Yr QdK (Yr QdJ (pv 1) ZX) (pv 3)))))))
   (Qaf (QaW (QnS (Ys (pv 1) Zu)))))),?_⟩
  refine⟨_,rfl,_,_,rfl,rfl,⟨by decide,by decide,by decide⟩,_,_,rfl,rfl,_,rfl,?_⟩;refine Qwx (λ_=>?_) (λ_=>?_)
  ·exact⟨_,rfl,_,_,rfl,rfl,⟨by decide,by decide,by decide⟩,_,_,rfl,rfl,by show 1<=sizeLine;decide,λp hp=>k p _ hp⟩
  ·refine⟨64,rfl,by decide,by decide,Qkv (n:=64) (λi σ H2=>∃n v u,σ=[some (.int c),some (.int n),v,u]/\H2=H) ⟨0,none,none,rfl,rfl⟩ ?_ ?_⟩
   ·rintro i σ H2 hi ⟨n,v,u,rfl,rfl⟩;have b1:=Qha ((c % 2147483629+7919*(0+(i:Int))+1)*48271) (m:=2147483647) (by decide);refine⟨_,rfl,_,_,rfl,rfl,by show(0:Int)<2147483629;decide,_,rfl,_,_,rfl,rfl,.inl ⟨by decide,by decide⟩,_,_,rfl,rfl,_,_,rfl,rfl,_,_,rfl,rfl,.inr ⟨by decide,by decide⟩,_,_,rfl,rfl,by show(0:Int)<2147483647;decide,?_⟩;refine⟨_,rfl,_,rfl,_,_,rfl,rfl,.inl ⟨by omega,by omega⟩,_,rfl,_,_,rfl,rfl,.inl ⟨by decide,by decide⟩,_,_,rfl,rfl,_,_,rfl,rfl,_,_,rfl,rfl,by show(0:Int)<2147483587;decide,?_⟩;exact⟨_,rfl,_,_,rfl,rfl,.inr ⟨by decide,by decide⟩,_,rfl,_,_,rfl,rfl,_,_,_,rfl,rfl⟩
   ·rintro σ H2 ⟨n,v,u,rfl,rfl⟩;exact⟨_,rfl,by show 1<=sizeLine;decide,λp hp=>k p _ hp⟩
theorem QnF:Jg ["_law_pot_here", "_law_far", "_law_found"] ["_law_pot_here", "_law_far"] (Qk QhX):=⟨rfl,rfl,rfl,by decide +kernel,rfl,by decide +kernel,by decide +kernel⟩
theorem QpJ{f:Addr}{fd:Qy}(F:Fun K "_law_take" "_law_take" QhX f fd)(T:GlbA mg):FnOk P w K mg base CX0 1 f fd ["_law_pot_here", "_law_far"] QgF:=by
 refine F.ok QnF (λvs H Q E h=>?_) (λcdv A outer s H vs Q E hr h=>?_)
 ·obtain⟨p,n,m,rfl,_⟩:=h;rfl
 ·obtain⟨p,n,m,rfl,hp,h0,h1,k⟩:=h;refine⟨_,Zr (YR (i:=2) QnF.nd rfl (Q0 rfl) (Yr QgZ (QhM Qb5 (pv 0) ZX (λ_ _=>rfl)) (pv 1)))
   (Zr (QnQ (Yr Qmz (QhM Qb5 (pv 0) ZX (λ_ _=>rfl)) (pv 1)) (QsI (pv 0) ZX QgG))
   (Qaf (QaW (pv 2)))),?_⟩
  have b:=Qha n h0;exact⟨_,rfl,p,_,_,_,rfl,rfl,SqL.of hp,rfl,_,rfl,_,_,rfl,rfl,h0,_,rfl,p,_,_,_,rfl,rfl,SqL.of hp,rfl,_,rfl,_,_,rfl,rfl,⟨h0,h1⟩,_,rfl,p,_,_,_,rfl,rfl,hp,rfl,_,rfl,k _ _ b.1 b.2⟩
end
end Rk
namespace Rk
open L2 _root_.Rd
open Dl
open Rt
section
variable{P:QD}{w:Je}{K:PySem.W.Frag}{mg:Str->Option Value}{base:JM}
theorem QlF:Jg ["thing"] ["thing"] (Qk Qdu):=⟨rfl,rfl,rfl,by decide +kernel,rfl,by decide +kernel,by decide +kernel⟩
theorem QmB{f   : Addr}{fd  : Qy}(F:Fun K "is_whole" "is_whole" Qdu f fd)(T:GlbA mg) :
  FnOk P w K mg base CX0 1 f fd ["thing"] (JF false QiL):=by
 refine okQ false F QlF (λargs R EX h=>?_) (λcdv A outer s H E hr=>?_)
 ·obtain⟨d,rfl,_⟩:=h;rfl
 ·have hU:=Room.u60 hr;have hI:=Room.i60 hr;refine⟨_,Q6 (ZJ (Qdl (QK (Qe6 .int (by rfl) T.isinstance (qp 0) (by rfl) T.int Qob)) (Qco (Qsy (QK (Qe6 .bool (by rfl) T.isinstance (qp 0) (by rfl) T.bool QrB)))))),λargs R EX h=>?_⟩;obtain⟨d,rfl,hR⟩:=h;cases d<;>exact hR
theorem Qi9:Jg ["thing", "least", "most"] ["thing", "least", "most"] (Qk QbQ):=⟨rfl,rfl,rfl,by decide +kernel,rfl,by decide +kernel,by decide +kernel⟩
theorem QjM{f f1  : Addr}{fd fd1:Qy}(F:Fun K "is_whole_within" "is_whole_within" QbQ f fd)(T:GlbA mg)
  (m1:mg "is_whole" = some (.ref f1))(G1:FnOk P w K mg base CX0 1 f1 fd1 ["thing"] (JF false QiL))(b1:Binds K fd1 ["thing"] [])(k1:PySem.W.keepIn K (.ref f1)=true) :
  FnOk P w K mg base CX0 2 f fd ["thing", "least", "most"] (JF false QbM):=by
 refine okQ false F Qi9 (λargs R EX h=>?_) (λcdv A outer s H E hr=>?_)
 ·obtain⟨d,a,b,rfl,_⟩:=h;rfl
 ·have hU:=Room.u60 hr;have hI:=Room.i60 hr;refine⟨_,Q6 (ZJ (Qdl (Jf (J7 G1 (hr.mono (by decide)) (by rfl) m1 k1 b1 Zh (Zb (qv 0) Jn))) (Qco (JP (Qxa Qgc Qgc (qp 1) (qp 0) (qp 2)))))),λargs R EX h=>?_⟩;obtain⟨d,a,b,rfl,hR⟩:=h;refine⟨d,rfl,?_⟩;cases d with
  |int i=>exact QvR (Qt7 hR)
  |_=>exact hR
theorem QdL:(["one", "other"]:List Str).Nodup:=by decide +kernel
theorem Qjd:Jg ["things"] ["things"] (Qk QbT):=⟨rfl,rfl,rfl,by decide +kernel,rfl,by decide +kernel,by decide +kernel⟩
theorem QjQ{f   : Addr}{fd  : Qy}(F:Fun K "is_rising" "is_rising" QbT f fd)(T:GlbA mg) :
  FnOk P w K mg base CX0 1 f fd ["things"] (JF false Qf3):=by
 refine okQ false F Qjd (λargs R EX h=>?_) (λcdv A outer s H E hr=>?_)
 ·obtain⟨ds,rfl | rfl,_⟩:=h<;>rfl
 ·have hU:=Room.u60 hr;have hI:=Room.i60 hr;refine⟨_,Q6 (QaE (JT Qbz (Qfs rfl) (by rfl) T.all Qfz (Qax (QK (QaV ["one", "other"] [none,none] (Qvt (Qjr (by rfl) T.zip (qp 0) (QK (QcT (qp 0) (QcQ (Jf QR)) QcR))) (QoU (by rfl) T.zip (qp 0) (QK (QcT (qp 0) (QcQ (Jf QR)) QcR)))) (λcl ex s3 H3 C=>⟨(QaT rfl (Zn 0 (Zn 1 QaU QdL rfl (Q0 rfl) (Q8 rfl)) QdL rfl (Q0 rfl) (Q8 rfl))),Zt,(JP (QbW (Qs9 hU) Qtl (qp 0) (qp 1) (Zv _)))⟩))) Q3))),λargs R EX h=>?_⟩;obtain⟨ds,h,hc,hR⟩:=h;have go:∀d∈QeS ds (Dl.cutD ds (some 1) none),∃a b,d=.tuple [a,b]/\(okK a=true/\okK b=true/\Qli a b=true/\a.depth<=20):=λd hd=>by
   obtain⟨i,hi⟩:=Q7.mp hd;obtain⟨a,b,ha,hb,rfl⟩:=Dl.zip_get hi;have ma:=QM ha;have mb:=Qhf (QM hb);exact⟨a,b,rfl,(hc a ma).1,(hc b mb).1,(hc a ma).2.2 b mb,(hc a ma).2.1⟩
  rcases h with rfl | rfl
  ·refine .inl (Yg (λd=>.bool (Qtp d)) (λd hd k2 hk=>?_) (Qcc (items:=QeS ds (Dl.cutD ds (some 1) none)) rfl (by rw[QcH];exact hR)));obtain⟨a,b,rfl,q⟩:=go d hd;exact⟨rfl,q,hk⟩
  ·refine .inr (Yg (λd=>.bool (Qtp d)) (λd hd k2 hk=>?_) (Qcc (items:=QeS ds (Dl.cutD ds (some 1) none)) rfl (by rw[QcH];exact hR)));obtain⟨a,b,rfl,q⟩:=go d hd;exact⟨rfl,q,hk⟩
theorem QlH:Jg ["high", "wide", "thing"] ["high", "wide", "thing"] (Qk Qdw):=⟨rfl,rfl,rfl,by decide +kernel,rfl,by decide +kernel,by decide +kernel⟩
theorem QmE{f f1  : Addr}{fd fd1:Qy}(F:Fun K "is_place" "is_place" Qdw f fd)(T:GlbA mg)
  (m1:mg "is_whole_within" = some (.ref f1))(G1:FnOk P w K mg base CX0 2 f1 fd1 ["thing", "least", "most"] (JF false QbM))(b1:Binds K fd1 ["thing", "least", "most"] [])(k1:PySem.W.keepIn K (.ref f1)=true) :
  FnOk P w K mg base CX0 3 f fd ["high", "wide", "thing"] (JF false Qjw):=by
 refine okQ false F QlH (λargs R EX h=>?_) (λcdv A outer s H E hr=>?_)
 ·obtain⟨h,w,d,rfl,_⟩:=h;rfl
 ·have hU:=Room.u60 hr;have hI:=Room.i60 hr;refine⟨_,QP (QaQ (Quw (Qsu (Qbr (Qbq (QK (Qe6 .tuple (by rfl) T.isinstance (qp 2) (by rfl) T.tuple QbA)))) (QnJ (Y3 QdI (QhQ hU) (QK (JT ZF Qaq (by rfl) T.len YE (Qax (qp 2) Q3))) (Jf QR) (Zv _))))) (Q6 (ZJ Qjs)) ZZ)
   (Q6 (ZJ (Qdl (Jf (J7 G1 (hr.mono (by decide)) (by rfl) m1 k1 b1 Zh (Zb (QdF Z9 Y8 (qp 2) (Jf QR) (λ_ _=>rfl)) (Zb QR (Zb (JP (ZT Qfc Qg0 (qp 0) (Jf QR))) Jn))))) (Qco (J7 G1 (hr.mono (by decide)) (by rfl) m1 k1 b1 Zh (Zb (QdF Z9 Y8 (qp 2) (Jf QR) (λ_ _=>rfl)) (Zb QR (Zb (JP (ZT Qfc Qg0 (qp 1) (Jf QR))) Jn)))))))),λargs R EX h=>?_⟩
  obtain⟨h,w,d,rfl,hR⟩:=h;cases d with
  |tuple ds=>
   match ds,hR with
   |[a,b],hR=>
    refine⟨a,rfl,_,_,_,rfl,?_⟩;refine Qdd hR λ_ hR=>?_
    exact⟨b,rfl,_,_,_,rfl,hR⟩
   |[],hR=>exact hR
   |[_],hR=>exact hR
   |a::b::c::r,hR=>
    exact hR
  |_=>exact hR
theorem Qj5:(["part", "high", "wide"]:List Str).Nodup:=by decide +kernel
theorem QlM:Jg ["high", "wide", "thing"] ["high", "wide", "thing"] (Qk QdC):=⟨rfl,rfl,rfl,by decide +kernel,rfl,by decide +kernel,by decide +kernel⟩
theorem QmL{f f1 f2  : Addr}{fd fd1 fd2:Qy}(F:Fun K "is_cells" "is_cells" QdC f fd)(T:GlbA mg)
  (m1:mg "is_place" = some (.ref f1))(G1:FnOk P w K mg base CX0 3 f1 fd1 ["high", "wide", "thing"] (JF false Qjw))(b1:Binds K fd1 ["high", "wide", "thing"] [])(k1:PySem.W.keepIn K (.ref f1)=true)
  (m2:mg "is_rising" = some (.ref f2))(G2:FnOk P w K mg base CX0 1 f2 fd2 ["things"] (JF false Qf3))(b2:Binds K fd2 ["things"] [])(k2:PySem.W.keepIn K (.ref f2)=true) :
  FnOk P w K mg base CX0 4 f fd ["high", "wide", "thing"] (JF false QkQ):=by
 refine okQ false F QlM (λargs R EX h=>?_) (λcdv A outer s H E hr=>?_)
 ·obtain⟨h,w,d,rfl,_⟩:=h;rfl
 ·have hU:=Room.u60 hr;have hI:=Room.i60 hr;refine⟨_,QP (QaQ (Qbr (Qbq (QK (Qe6 .tuple (by rfl) T.isinstance (qp 2) (by rfl) T.tuple QbA)))) (Q6 (ZJ Qjs)) ZZ)
   (Q6 (ZJ (Qdl (QK (JT Qbz (Qfs rfl) (by rfl) T.all Qfz (Qax (QK (QaV ["part", "high", "wide"] [none,some 0,some 1] (Qbt (qp 2)) (λcl ex s3 H3 C=>⟨(Zm 0 Qj5 rfl (Q0 rfl) (Q8 rfl)),Zt,(J7 G1 (hr.mono (by decide)) (by rfl) m1 k1 b1 Zh (Zb (qv 1) (Zb (qv 2) (Zb (qv 0) Jn))))⟩))) Q3))) (Qco (J7 G2 (hr.mono (by decide)) (by rfl) m2 k2 b2 Zh (Zb (qv 2) Jn)))))),λargs R EX h=>?_⟩
  obtain⟨h,w,d,rfl,hR⟩:=h;cases d with
  |tuple ds=>
   refine Yg (λd=>.bool (Qkk h w d)) (λd hd k2 hk=>⟨_,_,_,rfl,hk⟩) (Qcc (items:=ds) rfl ?_);refine Qdd hR λha hR=>?_
   obtain⟨L,rfl,_⟩:=Qep ha;exact⟨_,.inl rfl,Qfq L,hR⟩
  |_=>exact hR
theorem Qfh:(["row", "column"]:List Str).Nodup:=by decide +kernel
theorem Qfg:(["row", "column"]:List Str).Nodup:=by decide +kernel
theorem Qei:Jg ["cells", "rows", "columns"] ["cells"] (Qk QdE):=⟨rfl,rfl,rfl,by decide +kernel,rfl,by decide +kernel,by decide +kernel⟩
theorem QmM{f   : Addr}{fd  : Qy}(F:Fun K "are_apart" "are_apart" QdE f fd)(T:GlbA mg) :
  FnOk P w K mg base CX0 1 f fd ["cells"] (JF false Qk8):=by
 refine okQ false F Qei (λargs R EX h=>?_) (λcdv A outer s H E hr=>?_)
 ·obtain⟨L,rfl,_⟩:=h;rfl
 ·have hU:=Room.u60 hr;have hI:=Room.i60 hr;refine⟨_,QP (Qf5 ["row", "column"] [none,none] 1 Qei.nd (Qbt (qp 0)) (λcl ex s3 H3 C=>⟨(QaT rfl (Zn 0 (Zn 1 QaU Qfh rfl (Q0 rfl) (Q8 rfl)) Qfh rfl (Q0 rfl) (Q8 rfl))),Zt,(qv 0)⟩))
   (QP (Qf5 ["row", "column"] [none,none] 2 Qei.nd (Qbt (qp 0)) (λcl ex s3 H3 C=>⟨(QaT rfl (Zn 0 (Zn 1 QaU Qfg rfl (Q0 rfl) (Q8 rfl)) Qfg rfl (Q0 rfl) (Q8 rfl))),Zt,(qv 1)⟩))
   (Q6 (ZJ (Qdl (QK (QbW Qci (Qfd hU) (QK (QgR (by rfl) T.len (by rfl) T.set (qp 1))) (QK (JT ZF Qaq (by rfl) T.len YE (Qax (qp 1) Q3))) (Zv _))) (Qco (JP (QbW Qci (Qfd hU) (QK (QgR (by rfl) T.len (by rfl) T.set (qp 2))) (QK (JT ZF Qaq (by rfl) T.len YE (Qax (qp 2) Q3))) (Zv _)))))))),λargs R EX h=>?_⟩
  obtain⟨L,rfl,hl,hR⟩:=h;have e1:(L.map pairD).map (λd=>Qe (toP d).1)=(L.map (λp=>p.1)).map Qe:=by rw[Jj,Jj];rfl
  have e2:(L.map pairD).map (λd=>Qe (toP d).2)=(L.map (λp=>p.2)).map Qe:=by rw[Jj,Jj];rfl
  refine Yg (λd=>.int (toP d).1) (λd hd k2 hk=>?_) ?_
  ·obtain⟨p,_,rfl⟩:=QU.mp hd;exact⟨rfl,hk⟩
  ·refine Yg (λd=>.int (toP d).2) (λd hd k2 hk=>?_) ?_
   ·obtain⟨p,_,rfl⟩:=QU.mp hd;exact⟨rfl,hk⟩
   ·rw[e1,e2];refine⟨_,Qcb _,by rw[Qg];exact hl,?_⟩;have c1:∀ns:List Int,decide (((ddI ns).length:Int)=(((ns.map Qe).length:Nat):Int))=decide ns.Nodup:=λns=>by
     rw[Qg];refine decide_eq_decide.mpr ⟨λz=>(Qhb ns).mp (by omega),λz=>by have:=(Qhb ns).mpr z;omega⟩
    show if decide _=true then _ else _
    rw[c1];refine Qdd hR λ_ hR=>?_
    refine⟨_,Qcb _,by rw[Qg];exact hl,?_⟩;show R (.bool (decide _));rw[c1];exact hR
theorem Qj3:(["cell", "cells"]:List Str).Nodup:=by decide +kernel
theorem Qcw:Jg ["board", "thing", "high", "wide", "cells"] ["board", "thing"] (Qk Qdv):=⟨rfl,rfl,rfl,by decide +kernel,rfl,by decide +kernel,by decide +kernel⟩
theorem QmC{f f1 f2  : Addr}{fd fd1 fd2:Qy}(F:Fun K "is_stand" "is_stand" Qdv f fd)(T:GlbA mg)
  (m1:mg "is_cells" = some (.ref f1))(G1:FnOk P w K mg base CX0 4 f1 fd1 ["high", "wide", "thing"] (JF false QkQ))(b1:Binds K fd1 ["high", "wide", "thing"] [])(k1:PySem.W.keepIn K (.ref f1)=true)
  (m2:mg "are_apart" = some (.ref f2))(G2:FnOk P w K mg base CX0 1 f2 fd2 ["cells"] (JF false Qk8))(b2:Binds K fd2 ["cells"] [])(k2:PySem.W.keepIn K (.ref f2)=true) :
  FnOk P w K mg base CX0 5 f fd ["board", "thing"] (JF false Qi2):=by
 refine okQ false F Qcw (λargs R EX h=>?_) (λcdv A outer s H E hr=>?_)
 ·obtain⟨h,w,cs,d,rfl,_⟩:=h;rfl
 ·have hU:=Room.u60 hr;have hI:=Room.i60 hr;refine⟨_,QP (Qsx (qv 0) (QaT rfl (Zn 2 (Zn 3 (Zn 4 QaU Qcw.nd rfl (by first | exact Q0 rfl | exact Q8 rfl)) Qcw.nd rfl (by first | exact Q0 rfl | exact Q8 rfl)) Qcw.nd rfl (by first | exact Q0 rfl | exact Q8 rfl))))
   (QP (QaQ (Qbr (Qbq (Jf (J7 G1 (hr.mono (by decide)) (by rfl) m1 k1 b1 Zh (Zb (qv 2) (Zb (qv 3) (Zb (qv 1) Jn))))))) (Q6 (ZJ Qjs)) ZZ)
   (Q6 (ZJ (Qdl (QK (JT Qbz (Qfs rfl) (by rfl) T.all Qfz (Qax (QK (QaV ["cell", "cells"] [none,some 4] (Qbt (qp 1)) (λcl ex s3 H3 C=>⟨(Zm 0 Qj3 rfl (Q0 rfl) (Q8 rfl)),Zt,(JP (QbW Qtc (Qtm hI) (qp 0) (qp 1) (by rfl)))⟩))) Q3))) (Qco (J7 G2 (hr.mono (by decide)) (by rfl) m2 k2 b2 Zh (Zb (qv 1) Jn))))))),λargs R EX h=>?_⟩
  obtain⟨h,w,cs,d,rfl,hs,hR⟩:=h;refine⟨rfl,_,_,_,rfl,?_⟩;cases d with
  |tuple ds=>
   show if(!(ds.all (Qkk h w)&&Qdk ds))=true then _ else _
   cases hc:(ds.all (Qkk h w)&&Qdk ds) with
   |false=>
    rw[show QtA h w cs (.tuple ds)=false by show((ds.all (Qkk h w)&&Qdk ds)&&_)=false;rw[hc];rfl] at hR;exact hR
   |true=>
    rw[show QtA h w cs (.tuple ds)=(ds.all (inC cs)&&apB (ds.map toP)) by show((ds.all (Qkk h w)&&Qdk ds)&&_)=_;rw[hc];rfl] at hR;obtain⟨L,rfl,hL⟩:=Qep (QC.mp hc).1;have hl:=hs _ rfl;rw[Qg] at hl;refine Yg (λd=>.bool (inC cs d)) (λd hd k2 hk=>?_) (Qcc (items:=L.map pairD) rfl ?_)
    ·obtain⟨p,_,rfl⟩:=QU.mp hd;exact⟨⟨Qj1 cs,rfl,by have:=Qh4 p;omega⟩,hk⟩
    ·rw[Qfb] at hR;refine Qdd hR λ_ hR=>⟨L,rfl,by omega,hR⟩
  |_=>exact hR
theorem Qfe:(["one", "other"]:List Str).Nodup:=by decide +kernel
theorem QlI:Jg ["things"] ["things"] (Qk Qdx):=⟨rfl,rfl,rfl,by decide +kernel,rfl,by decide +kernel,by decide +kernel⟩
theorem QmF{f   : Addr}{fd  : Qy}(F:Fun K "is_never_falling" "is_never_falling" Qdx f fd)(T:GlbA mg) :
  FnOk P w K mg base CX0 1 f fd ["things"] (JF false Qj0):=by
 refine okQ false F QlI (λargs R EX h=>?_) (λcdv A outer s H E hr=>?_)
 ·obtain⟨ns,rfl,_⟩:=h;rfl
 ·have hU:=Room.u60 hr;have hI:=Room.i60 hr;refine⟨_,Q6 (QaE (JT Qbz (Qfs rfl) (by rfl) T.all Qfz (Qax (QK (QaV ["one", "other"] [none,none] (Qjr (by rfl) T.zip (qp 0) (QK (QcT (qp 0) (QcQ (Jf QR)) QcR))) (λcl ex s3 H3 C=>⟨(QaT rfl (Zn 0 (Zn 1 QaU Qfe rfl (Q0 rfl) (Q8 rfl)) Qfe rfl (Q0 rfl) (Q8 rfl))),Zt,(JP (QbW Qgc Qbu (qp 0) (qp 1) (Zv _)))⟩))) Q3))),λargs R EX h=>?_⟩;obtain⟨ns,rfl,hR⟩:=h;refine Yg (λd=>.bool (QuA d)) (λd hd k2 hk=>?_) (Qcc (items:=QeS (ns.map Qe) (Dl.cutD (ns.map Qe) (some 1) none)) rfl (by rw[Qny];exact hR));obtain⟨i,hi⟩:=Q7.mp hd;obtain⟨a,b,ha,hb,rfl⟩:=Dl.zip_get hi;obtain⟨x,_,rfl⟩:=QU.mp (QM ha);obtain⟨y,_,rfl⟩:=QU.mp (Qhf (QM hb));exact⟨rfl,hk⟩
theorem QhR:(["part"]:List Str).Nodup:=by decide +kernel
theorem Qjc:Jg ["thing"] ["thing"] (Qk QbR):=⟨rfl,rfl,rfl,by decide +kernel,rfl,by decide +kernel,by decide +kernel⟩
theorem QjO{f f1 f2  : Addr}{fd fd1 fd2:Qy}(hA:∃t,mg "MOST_LINES" = some (.int 6 t))(F:Fun K "is_stairs" "is_stairs" QbR f fd)(T:GlbA mg)
  (m1:mg "is_whole_within" = some (.ref f1))(G1:FnOk P w K mg base CX0 2 f1 fd1 ["thing", "least", "most"] (JF false QbM))(b1:Binds K fd1 ["thing", "least", "most"] [])(k1:PySem.W.keepIn K (.ref f1)=true)
  (m2:mg "is_never_falling" = some (.ref f2))(G2:FnOk P w K mg base CX0 1 f2 fd2 ["things"] (JF false Qj0))(b2:Binds K fd2 ["things"] [])(k2:PySem.W.keepIn K (.ref f2)=true) :
  FnOk P w K mg base CX0 3 f fd ["thing"] (JF false QfY):=by
 refine okQ false F Qjc (λargs R EX h=>?_) (λcdv A outer s H E hr=>?_)
 ·obtain⟨d,rfl,_⟩:=h;rfl
 ·obtain⟨tA,mA⟩:=hA;have hU:=Room.u60 hr;have hI:=Room.i60 hr;refine⟨_,QP (QaQ (Quw (Qsu (Qbr (Qbq (QK (Qe6 .tuple (by rfl) T.isinstance (qp 0) (by rfl) T.tuple QbA)))) (QnJ (Qbr (Qvs Qgc Qgc (Jf QR) (QK (JT ZF Qaq (by rfl) T.len YE (Qax (qp 0) Q3))) (Jf (QgS 6 (by rfl) mA ⟨_,rfl⟩))))))) (Q6 (ZJ Qjs)) ZZ)
   (Q6 (ZJ (Qdl (QK (JT Qbz (Qfs rfl) (by rfl) T.all Qfz (Qax (QK (QaV ["part"] [none] (Qbt (qp 0)) (λcl ex s3 H3 C=>⟨(Zm 0 QhR rfl (Q0 rfl) (Q8 rfl)),Zt,(J7 G1 (hr.mono (by decide)) (by rfl) m1 k1 b1 Zh (Zb (qv 0) (Zb QR (Zb (QgS 6 (by rfl) mA ⟨_,rfl⟩) Jn))))⟩))) Q3))) (Qco (J7 G2 (hr.mono (by decide)) (by rfl) m2 k2 b2 Zh (Zb (qv 0) Jn)))))),λargs R EX h=>?_⟩
  obtain⟨d,rfl,hR⟩:=h;cases d with
  |tuple ds=>
   have hR:R (.bool ((decide ((1:Int)<=ds.length)&&decide ((ds.length:Int)<=6))&&(ds.all (λd=>inW d 0 6)&&nfI (ds.map toI)))):=hR;refine ifC (λz1=>?_) λz1=>?_
   ·rw[show decide ((1:Int)<=ds.length)=true from z1,Qcu] at hR;show if(!decide ((ds.length:Int)<=6))=true then _ else _
    cases z2:decide ((ds.length:Int)<=6) with
    |false=>rw[z2] at hR;exact hR
    |true=>
     rw[z2,Qcu] at hR;refine Yg (λd=>.bool (inW d 0 6)) (λd hd k2 hk=>⟨_,_,_,rfl,hk⟩) (Qcc (items:=ds) rfl ?_);refine Qdd hR λha hR=>⟨ds.map toI,?_,hR⟩
     rw[tI,<- (Qg3 ha).1]
   ·rw[show decide ((1:Int)<=ds.length)=false from z1] at hR;exact hR
  |_=>exact hR
theorem QlG:Jg ["stairs"] ["stairs"] (Qk QhE):=⟨rfl,rfl,rfl,by decide +kernel,rfl,by decide +kernel,by decide +kernel⟩
theorem QmD{f f1 CS:Addr}{fd fd1:Qy}(F:Fun K "refuse_no_stairs" "refuse_no_stairs" QhE f fd)(T:GlbA mg)
  (m1:mg "is_stairs" = some (.ref f1))(G1:FnOk P w K mg base CX0 3 f1 fd1 ["thing"] (JF false QfY))(b1:Binds K fd1 ["thing"] [])(k1:PySem.W.keepIn K (.ref f1)=true)
  (mCS:mg "NoStairs" = some (.ref CS))(qCS:PySem.W.excIn K CS Rx.mroV "ValueError.__new__" = true) :
  FnOk P w K mg base (Rx.CXE P w) 4 f fd ["stairs"] (JF false (Qjh CS)):=by
 refine QnV false F QlG (λargs R EX h=>?_) (λcdv A outer s H E hr=>?_)
 ·obtain⟨d,rfl,_⟩:=h;rfl
 ·have hU:=Room.u60 hr;have hI:=Room.i60 hr;refine⟨_,Q6 (QaQ (Qbr (Qbq (Jf (J7 G1 (hr.mono (by decide)) (by rfl) m1 k1 b1 Zh (Zb (qv 0) Jn))))) (Q6 (Qbs (λ_ _ h=>h) mCS qCS (Jf Y5))) ZZ),λargs R EX h=>?_⟩;obtain⟨d,rfl,hR,hX⟩:=h;refine⟨_,rfl,?_⟩;show if(!J5 d)=true then _ else _
  cases ha:J5 d with
  |false=>exact hX ha
  |true=>exact hR ha
theorem QbZ:(["row", "column", "many", "stairs"]:List Str).Nodup:=by decide +kernel
theorem QcK:Jg ["stairs", "high", "cells"] ["stairs"] (Qk QbS):=⟨rfl,rfl,rfl,by decide +kernel,rfl,by decide +kernel,by decide +kernel⟩
theorem QjP{f f1  : Addr}{fd fd1:Qy}{CS:Addr}(F:Fun K "stair_board" "stair_board" QbS f fd)(T:GlbA mg)
  (m1:mg "refuse_no_stairs" = some (.ref f1))(G1:FnOk P w K mg base (Rx.CXE P w) 4 f1 fd1 ["stairs"] (JF false (Qjh CS)))(b1:Binds K fd1 ["stairs"] [])(k1:PySem.W.keepIn K (.ref f1)=true) :
  FnOk P w K mg base (Rx.CXE P w) 5 f fd ["stairs"] (JF false (sbX CS)):=by
 refine QnV false F QcK (λargs R EX h=>?_) (λcdv A outer s H E hr=>?_)
 ·obtain⟨d,rfl,_⟩:=h;rfl
 ·have hU:=Room.u60 hr;have hI:=Room.i60 hr;refine⟨_,QP (QaF (Jf (J7 G1 (hr.mono (by decide)) (by rfl) m1 k1 b1 (Rx.Qcp (E:=E) (λ_ _ h=>h) rfl rfl rfl) (Zb (qv 0) Jn))))
   (QP (Yd 1 (JP (JT (Qfw rfl) Qnj (by rfl) T.max Qoa (Qax (Jf (QdF Z9 Y8 (qp 0) (QK (QlU (Jf QR))) (λ_ _=>rfl))) (Qax (Jf QR) Q3)))) QcK.nd)
   (QP (QlT ["row", "column", "many", "stairs"] [none,none,none,some 0] 2 QcK.nd (Qg6 0) (YV (by rfl) T.range (qp 1)) (λcl ex s3 H3 C=>⟨(Zm 0 QbZ rfl (Q0 rfl) (Q8 rfl)),Zt,(QgP (by rfl) T.enumerate (qv 3)),(QaT rfl (Zn 1 (Zn 2 QaU QbZ rfl (Q0 rfl) (Q8 rfl)) QbZ rfl (Q0 rfl) (Q8 rfl))),(Qf4 (Y3 QpC Qbu (qp 0) (qp 2) (Zv _))),(JP (YL (JZ (qv 0) (JZ (qv 1) Q3))))⟩))
   (Q6 (QaE (YL (JZ (qv 1) (JZ (JP (JT ZF Qaq (by rfl) T.len YE (Qax (qp 0) Q3))) (JZ (JP (Qcz QaZ Qhi (by rfl) T.tuple QbA (Qax (qp 2) Q3))) Q3)))))))),λargs R EX h=>?_⟩
  obtain⟨d,rfl,hX,hR⟩:=h;refine⟨_,rfl,λha=>?_,hX⟩;obtain⟨ns,rfl,hs⟩:=Qef ha;have hR:=hR ns rfl hs;have hh:=QoK hs;have h6:=hs.l6;refine⟨_,Qp7 hs.l1,Qp4 Qvh ⟨⟨by omega,by omega⟩,QkN (QoM ns) 36 ?_ (λd hd acc N hb hN=>?_) ?_⟩⟩
  ·rw[QgN,Qg];exact QfZ hs
  ·obtain⟨i,hi⟩:=Q7.mp hd;obtain⟨hi,rfl⟩:=Qae hi;have er:QoM ns (.int (0+(i:Int)))=(Qc4 (ns.map Qe)).filterMap (Quu (i:Int)):=by
    rw[Qng];show(QeT (0+(i:Int)).toNat ns.length (stF ns)).map pairD=_;rw[show(0+(i:Int)).toNat=i by omega]
   refine QtD (Quu (i:Int)) ?_ (λd hd k1 k2 h1 h2=>?_) (by rw[<- er];exact hN)
   ·rw[Qaj,Qg];exact ZU (show acc.length+ns.length<=42 by omega) (by decide)
   ·obtain⟨c,hc⟩:=Q7.mp hd;obtain⟨e,he,rfl⟩:=QaL hc;obtain⟨m,_,rfl⟩:=QU.mp (QM he);have h1:(if(i:Int)<m then some (pairD ((i:Int),(c:Int))) else none)=none->k1:=h1;have h2:∀e,(if(i:Int)<m then some (pairD ((i:Int),(c:Int))) else none)=some e->k2 e:=h2
    refine⟨rfl,?_⟩;show if decide (0+(i:Int)<m)=true then k2 (.tuple [.int (0+(i:Int)),.int (c:Int)]) else k1
    rw[show(0:Int)+(i:Int)=(i:Int) by omega];by_cases z:(i:Int)<m
    ·rw[if_pos (decide_eq_true z)];exact h2 _ (if_pos z)
    ·rw[if_neg (by simpa using z)];exact h1 (if_neg z)
  ·rw[QgN,Z4];have hR:R (.tuple [.int (sH ns),.int ns.length,.tuple ((stC ns).map pairD)]):=hR;rw[<- Qg (f:=Qe)] at hR;exact hR
theorem QdM:(["row", "column", "cell"]:List Str).Nodup:=by decide +kernel
theorem Qje:Jg ["stand", "cell"] ["stand", "cell"] (Qk QbU):=⟨rfl,rfl,rfl,by decide +kernel,rfl,by decide +kernel,by decide +kernel⟩
theorem QjR{f   : Addr}{fd  : Qy}(F:Fun K "is_left" "is_left" QbU f fd)(T:GlbA mg) :
  FnOk P w K mg base CX0 1 f fd ["stand", "cell"] (JF false Qgh):=by
 refine okQ false F Qje (λargs R EX h=>?_) (λcdv A outer s H E hr=>?_)
 ·obtain⟨L,p,rfl,_⟩:=h;rfl
 ·have hU:=Room.u60 hr;have hI:=Room.i60 hr;refine⟨_,Q6 (ZJ (Qsy (QK (JT Qnl (Qt3 rfl) (by rfl) T.any Dl.bt_any (Qax (QK (QaV ["row", "column", "cell"] [none,none,some 1] (Qbt (qp 0)) (λcl ex s3 H3 C=>⟨(QaT rfl (Zn 0 (Zn 1 QaU QdM rfl (Q0 rfl) (Q8 rfl)) QdM rfl (Q0 rfl) (Q8 rfl))),Zt,(Qwr (Jf (Qdl (QK (QbW Qci (Qfd hU) (qp 1) (Jf (QdF Z9 Y8 (qp 2) (Jf QR) (λ_ _=>rfl))) (Zv _))) (Qco (JP (QbW QpE Qbu (qp 0) (Jf (QdF Z9 Y8 (qp 2) (Jf QR) (λ_ _=>rfl))) (Zv _)))))) (Qco (Qdl (QK (QbW Qci (Qfd hU) (qp 0) (Jf (QdF Z9 Y8 (qp 2) (Jf QR) (λ_ _=>rfl))) (Zv _))) (Qco (JP (QbW QpC Qbu (qp 1) (Jf (QdF Z9 Y8 (qp 2) (Jf QR) (λ_ _=>rfl))) (Zv _)))))))⟩))) Q3))))),λargs R EX h=>?_⟩;obtain⟨L,p,rfl,hR⟩:=h;refine Yg (λd=>.bool ((decide ((toP d).2=p.2)&&decide ((toP d).1≥p.1))||(decide ((toP d).1=p.1)&&decide ((toP d).2<p.2)))) (λd hd k2 hk=>?_) (QrE (items:=L.map pairD) rfl ?_)
  ·obtain⟨q,_,rfl⟩:=QU.mp hd;have hk:k2 (.bool ((decide (q.2=p.2)&&decide (q.1≥p.1))||(decide (q.1=p.1)&&decide (q.2<p.2)))):=hk;have alt:k2 (.bool (decide (q.1=p.1)&&decide (q.2<p.2)))->∃d,atI [Qe p.1,.int p.2] 0=some d/\(λd=>eqD (.int q.1) d λb=>match b with | .bool c=>(if c=true then(∃d,atI [Qe p.1,.int p.2] 1=some d/\(ii0 λi j=>Yo (decide (i<j))) (.int q.2) d k2) else k2 (.bool false)) | _=>False) d:=λhk=>by
    refine⟨_,Zw (j:=0) rfl,?_⟩;show if decide (q.1=p.1)=true then _ else _
    cases z3:decide (q.1=p.1) with
    |true=>rw[z3] at hk;exact⟨_,Zw (j:=1) rfl,hk⟩
    |false=>rw[z3] at hk;exact hk
   refine⟨rfl,_,Zw (j:=1) rfl,?_⟩;refine ifC (λz1=>?_) λz1=>?_
   ·rw[show decide (q.2=p.2)=true from z1,Qcu] at hk;refine⟨_,Zw (j:=0) rfl,?_⟩;refine ifC (λz2=>?_) λz2=>?_
    ·rw[show decide (q.1≥p.1)=true from z2,Bool.true_or] at hk;exact hk
    ·rw[show decide (q.1≥p.1)=false from z2,Qur] at hk;exact alt hk
   ·rw[show decide (q.2=p.2)=false from z1,QfO,Qur] at hk;exact alt hk
  ·have e:((L.map pairD).any λd=>(decide ((toP d).2=p.2)&&decide ((toP d).1≥p.1))||(decide ((toP d).1=p.1)&&decide ((toP d).2<p.2)))=L.any λq=>(decide (q.2=p.2)&&decide (q.1≥p.1))||(decide (q.1=p.1)&&decide (q.2<p.2)):=by rw[Qip];rfl
   rw[e];exact hR
theorem Qj4:(["cell", "stand"]:List Str).Nodup:=by decide +kernel
theorem QlL:Jg ["board", "stand"] ["board", "stand"] (Qk QdD):=⟨rfl,rfl,rfl,by decide +kernel,rfl,by decide +kernel,by decide +kernel⟩
theorem QmK{f f1  : Addr}{fd fd1:Qy}(F:Fun K "cells_left" "cells_left" QdD f fd)(T:GlbA mg)
  (m1:mg "is_left" = some (.ref f1))(G1:FnOk P w K mg base CX0 1 f1 fd1 ["stand", "cell"] (JF false Qgh))(b1:Binds K fd1 ["stand", "cell"] [])(k1:PySem.W.keepIn K (.ref f1)=true) :
  FnOk P w K mg base CX0 2 f fd ["board", "stand"] (JF false Qhg):=by
 refine okQ false F QlL (λargs R EX h=>?_) (λcdv A outer s H E hr=>?_)
 ·obtain⟨h,w,cs,L,rfl,_⟩:=h;rfl
 ·have hU:=Room.u60 hr;have hI:=Room.i60 hr;refine⟨_,Q6 (QaE (Qcz QaZ Qhi (by rfl) T.tuple QbA (Qax (QK (QaV ["cell", "stand"] [none,some 1] (Qbt (Jf (QdF Z9 Y8 (qp 0) (Jf QR) (λ_ _=>rfl)))) (λcl ex s3 H3 C=>⟨(Zm 0 Qj4 rfl (Q0 rfl) (Q8 rfl)),(Qf4 (Qbq (Jf (J7 G1 (hr.mono (by decide)) (by rfl) m1 k1 b1 Zh (Zb (qv 1) (Zb (qv 0) Jn)))))),(qv 0)⟩))) Q3))),λargs R EX h=>?_⟩;obtain⟨h,w,cs,L,rfl,hR⟩:=h;refine⟨_,Zw (j:=2) rfl,Qt1 (λd=>if Qm5 L (toP d)=true then some d else none) (λd hd k1 k2 h1 h2=>?_) ?_⟩
  ·obtain⟨p,_,rfl⟩:=QU.mp hd;have h1:(if Qm5 L p=true then some (pairD p) else none)=none->k1:=h1;have h2:∀e,(if Qm5 L p=true then some (pairD p) else none)=some e->k2 e:=h2
   refine⟨_,_,rfl,?_⟩;show if Qm5 L p=true then k2 (pairD p) else k1
   by_cases z:Qm5 L p=true
   ·rw[if_pos z];exact h2 _ (if_pos z)
   ·rw[if_neg z];exact h1 (if_neg z)
  ·rw[Qg8];exact hR
theorem QgK:Jg ["stairs", "stand", "board"] ["stairs", "stand"] (Qk Qdz):=⟨rfl,rfl,rfl,by decide +kernel,rfl,by decide +kernel,by decide +kernel⟩
theorem QmI{f f1 f2 f3 CN:Addr}{fd fd1 fd2 fd3:Qy}{CS:Addr}(F:Fun K "left_cells" "left_cells" Qdz f fd)(T:GlbA mg)
  (m1:mg "stair_board" = some (.ref f1))(G1:FnOk P w K mg base (Rx.CXE P w) 5 f1 fd1 ["stairs"] (JF false (sbX CS)))(b1:Binds K fd1 ["stairs"] [])(k1:PySem.W.keepIn K (.ref f1)=true)
  (m2:mg "is_stand" = some (.ref f2))(G2:FnOk P w K mg base CX0 5 f2 fd2 ["board", "thing"] (JF false Qi2))(b2:Binds K fd2 ["board", "thing"] [])(k2:PySem.W.keepIn K (.ref f2)=true)
  (m3:mg "cells_left" = some (.ref f3))(G3:FnOk P w K mg base CX0 2 f3 fd3 ["board", "stand"] (JF false Qhg))(b3:Binds K fd3 ["board", "stand"] [])(k3:PySem.W.keepIn K (.ref f3)=true)
  (mCN:mg "NoStand" = some (.ref CN))(qCN:PySem.W.excIn K CN Rx.mroV "ValueError.__new__" = true) :
  FnOk P w K mg base (Rx.CXE P w) 7 f fd ["stairs", "stand"] (JF false (Qm0 CS CN)):=by
 refine QnV false F QgK (λargs R EX h=>?_) (λcdv A outer s H E hr=>?_)
 ·obtain⟨a,d,rfl,_⟩:=h;rfl
 ·have hU:=Room.u60 hr;have hI:=Room.i60 hr;refine⟨_,QP (Yd 2 (J7 G1 (hr.mono (by decide)) (by rfl) m1 k1 b1 (Rx.Qcp (E:=E) (λ_ _ h=>h) rfl rfl rfl) (Zb (qv 0) Jn)) QgK.nd)
   (QP (QaQ (Qbr (Qbq (Jf (J7 G2 (hr.mono (by decide)) (by rfl) m2 k2 b2 Zh (Zb (qv 2) (Zb (qv 1) Jn)))))) (Q6 (Qbs (λ_ _ h=>h) mCN qCN (Jf Y5))) ZZ)
   (Q6 (ZJ (J7 G3 (hr.mono (by decide)) (by rfl) m3 k3 b3 Zh (Zb (qv 2) (Zb (qv 1) Jn)))))),λargs R EX h=>?_⟩
  obtain⟨a,d,rfl,hs,hS,hN,hR⟩:=h;refine⟨_,rfl,hS,λns ea hst=>?_⟩;subst ea;refine⟨_,_,_,_,rfl,hs,?_⟩;show if(!QnE ns d)=true then _ else _
  cases hb:QnE ns d with
  |false=>exact hN ns rfl hst hb
  |true=>
   obtain⟨L,rfl,_⟩:=QlD hb;exact⟨_,_,_,_,rfl,hR ns L rfl hst rfl hb⟩
theorem QoG:Jg ["start"] ["start"] (Qk QhC):=⟨rfl,rfl,rfl,by decide +kernel,rfl,by decide +kernel,by decide +kernel⟩
theorem QpK{f   : Addr}{fd  : Qy}(F:Fun K "row_behind" "row_behind" QhC f fd)(T:GlbA mg) :
  FnOk P w K mg base CX0 1 f fd ["start"] (JF false QoL):=by
 refine okQ false F QoG (λargs R EX h=>?_) (λcdv A outer s H E hr=>?_)
 ·obtain⟨S,rfl,_⟩:=h;rfl
 ·have hU:=Room.u60 hr;have hI:=Room.i60 hr;refine⟨_,Q6 (ZJ (Qvu (Qsv (qp 0)) (JP (ZT Z0 Yx (Jf (QdF Z9 Y8 (Jf (QdF Z9 Y8 (qp 0) (QK (QlU (Jf QR))) (λ_ _=>rfl))) (Jf QR) (λ_ _=>rfl))) (Jf QR))) QR)),λargs R EX h=>?_⟩;obtain⟨S,rfl,hR⟩:=h;refine⟨trivial,?_⟩;unfold rbI at hR;cases e:S.getLast? with
  |none=>
   rw[e] at hR;rw[QfL] at e;subst e;exact hR
  |some c=>
   rw[e] at hR;refine ifT ?_ ⟨_,Qp6 e,_,Zw (j:=0) rfl,hR⟩
   cases S with
   |nil=>cases e
   |cons a b=>rfl
theorem QpZ:(["cell"]:List Str).Nodup:=by decide +kernel
theorem QpY:(["cell", "row", "taken"]:List Str).Nodup:=by decide +kernel
theorem Qjf:Jg ["board", "start", "row", "taken"] ["board", "start"] (Qk sFol):=⟨rfl,rfl,rfl,by decide +kernel,rfl,by decide +kernel,by decide +kernel⟩
theorem Qti{f f1  : Addr}{fd fd1:Qy}(F:Fun K "followers" "followers" sFol f fd)(T:GlbA mg)
  (m1:mg "row_behind" = some (.ref f1))(G1:FnOk P w K mg base CX0 1 f1 fd1 ["start"] (JF false QoL))(b1:Binds K fd1 ["start"] [])(k1:PySem.W.keepIn K (.ref f1)=true) :
  FnOk P w K mg base CX0 2 f fd ["board", "start"] (JF false QvZ):=by
 refine okQ false F Qjf (λargs R EX h=>?_) (λcdv A outer s H E hr=>?_)
 ·obtain⟨h,w,cs,S,rfl,_⟩:=h;rfl
 ·have hU:=Room.u60 hr;have hI:=Room.i60 hr;refine⟨_,QP (Yd 2 (J7 G1 (hr.mono (by decide)) (by rfl) m1 k1 b1 Zh (Zb (qv 1) Jn)) Qjf.nd)
   (QP (Yd 3 (JP (QaV ["cell"] [none] (Qbt (qp 1)) (λcl ex s3 H3 C=>⟨(Zm 0 QpZ rfl (Q0 rfl) (Q8 rfl)),Zt,(QdF Z9 Y8 (qp 0) (Jf QR) (λ_ _=>rfl))⟩))) Qjf.nd)
   (Q6 (QaE (QaV ["cell", "row", "taken"] [none,some 2,some 3] (Qbt (Jf (QdF Z9 Y8 (qp 0) (Jf QR) (λ_ _=>rfl)))) (λcl ex s3 H3 C=>⟨(Zm 0 QpY rfl (Q0 rfl) (Q8 rfl)),(Qf4 (Quw (QnK (Y3 QpE Qbu (Jf (QdF Z9 Y8 (qp 0) (Jf QR) (λ_ _=>rfl))) (qp 1) (Zv _)) (Qjo (Y3 QjL (Qtm hI) (Jf (QdF Z9 Y8 (qp 0) (Jf QR) (λ_ _=>rfl))) (qp 2) (by rfl)))))),(qv 0)⟩))))),λargs R EX h=>?_⟩
  obtain⟨h,w,cs,S,rfl,hR⟩:=h;refine⟨_,rfl,Yg (λd=>.int (toP d).2) (λd hd k2 hk=>?_) ?_⟩
  ·obtain⟨p,_,rfl⟩:=QU.mp hd;exact⟨_,Zw (j:=1) rfl,hk⟩
  ·rw[show(S.map pairD).map (λd=>Qe (toP d).2)=(S.map (·.2)).map Qe by rw[Jj,Jj];rfl];refine⟨_,Zw (j:=2) rfl,Qt1 (λd=>if(λc:Int×Int=>decide (rbI S<=c.1) && !decide (c.2∈S.map (·.2))) (toP d)=true then some d else none) (λd hd k1 k2 h1 h2=>?_) ?_⟩
   ·obtain⟨c,_,rfl⟩:=QU.mp hd;have h1:(if(decide (rbI S<=c.1) && !decide (c.2∈S.map (·.2)))=true then some (pairD c) else none)=none->k1:=h1;have h2:∀e,(if(decide (rbI S<=c.1) && !decide (c.2∈S.map (·.2)))=true then some (pairD c) else none)=some e->k2 e:=h2
    refine⟨_,Zw (j:=0) rfl,?_⟩;refine ifC (λz1=>?_) λz1=>?_
    ·have z1:decide (rbI S<=c.1)=true:=z1;rw[z1,Qcu] at h1 h2;refine⟨_,Zw (j:=1) rfl,⟨QmP _,rfl,by show Yu (.int _)<=50;unfold Yu;decide⟩,?_⟩;show if(!((S.map (·.2)).map Qe).any λe=>Jo e (.int c.2))=true then _ else k1
     rw[QrD];by_cases z:(!decide (c.2∈S.map (·.2)))=true
     ·rw[if_pos z];exact h2 _ (if_pos z)
     ·rw[if_neg z];exact h1 (if_neg z)
    ·have z1:decide (rbI S<=c.1)=false:=z1;rw[z1] at h1;exact h1 rfl
   ·rw[Qg8 (λc:Int×Int=>decide (rbI S<=c.1) && !decide (c.2∈S.map (·.2)))];exact hR
theorem QnW:(["stand", "cell", "board"]:List Str).Nodup:=by decide +kernel
theorem QlK:Jg ["board", "size", "stands", "step"] ["board", "size"] (Qk QdB):=⟨rfl,rfl,rfl,by decide +kernel,rfl,by decide +kernel,by decide +kernel⟩
theorem QvI{f f1  : Addr}{fd fd1:Qy}(F:Fun K "every_stand" "every_stand" QdB f fd)(T:GlbA mg)
  (m1:mg "followers" = some (.ref f1))(G1:FnOk P w K mg base CX0 2 f1 fd1 ["board", "start"] (JF false QvZ))(b1:Binds K fd1 ["board", "start"] [])(k1:PySem.W.keepIn K (.ref f1)=true) :
  FnOk P w K mg base CX0 3 f fd ["board", "size"] (JF true evD):=by
 refine okQ true F QlK (λargs R EX h=>?_) (λcdv A outer s H E hr=>?_)
 ·obtain⟨h,w,cs,k,rfl,_⟩:=h;rfl
 ·have hU:=Room.u60 hr;have hI:=Room.i60 hr;refine⟨_,QP (QcO 2 (Y6 (JZ (JP (YL Q3)) Q3)) QlK.nd)
   (QP (QcP Zs rfl (YV (by rfl) T.range (qp 1)) (Zm 3 QlK.nd rfl (by first | exact Q0 rfl | exact Q8 rfl))
    (Q6 (Qjp ["stand", "cell", "board"] [none,none,some 0] 2 QlK.nd (Qg6 0) (QcS (qp 2)) (λcl ex s3 H3 C=>⟨(Zm 0 QnW rfl (Q0 rfl) (Q8 rfl)),Zt,(QcS (J7 G1 (hr.mono (by decide)) (by rfl) m1 k1 b1 Zh (Zb (qv 2) (Zb (qv 0) Jn)))),(Zm 1 QnW rfl (Q0 rfl) (Q8 rfl)),Zt,(JP (ZT Z0 Yx (qp 0) (QK (YL (JZ (qv 1) Q3)))))⟩))))
   (Q6 (Qel 2))),λargs R EX h=>?_⟩
  obtain⟨h,w,cs,k,rfl,g,k6,hR⟩:=h;refine⟨⟨by omega,by omega⟩,Qgj (λi δ=>∃ds x3,δ=[.v (bdD h w cs),.v (.int k),.own ds,x3]/\ds=(evS cs i).map stT) ⟨_,_,rfl,rfl⟩ ?_ ?_⟩
  ·rintro i δ hi ⟨ds,x3,rfl,rfl⟩;rw[Z4] at hi;refine QkN (evG cs) 200000 (by rw[Qkx,Qg];exact QtL g (i+1)) (λd hd acc N hb hN=>?_) ?_
   ·obtain⟨S,hS,rfl⟩:=QU.mp hd;have lS:=((QdN g.r0 i S).mp hS).2;unfold evG at hb hN;rw[Qsg] at hb hN;rw[Qg] at hb;refine⟨_,_,_,_,rfl,QtC (λd=>.tuple (S.map pairD++[d])) (by rw[Qg];exact ZU hb (by decide)) (λd hd k2 hk=>?_) ?_⟩
    ·exact⟨by rw[Qg];show _+1<=_;omega,hk⟩
    ·rw[Jj];have e:(fol cs S).map ((λd=>QaR (S.map pairD++[d]))∘pairD)=(fol cs S).map λc=>stT (S++[c]):=Zi λc _=>by
      show QaR (S.map pairD++[pairD c])=QaR ((S++[c]).map pairD);rw[ZC];rfl
     rw[e];exact hN
   ·rw[Qkx];exact⟨_,_,rfl,rfl⟩
  ·rintro δ ⟨ds,x3,rfl,rfl⟩;rw[Z4];exact hR
end
def wtV(cs:List (Int×Int))(k:Nat)(i:Nat):Int:=((wt cs ((evS cs k).getD i []):Nat):Int)
def QvN(cs:List (Int×Int))(k:Nat):Option (List (Int×Int)):=(evS cs k)[bstI (wtV cs k) ((evS cs k).length - 1)]?
def QrP(cs:List (Int×Int))(k:Nat):PyData:=match QvN cs k with
 |some L=>stT L
 |none=>.none
def Qm4:Str:=("lightest" : Str) ++ ".<locals>." ++ "<lambda>"
theorem QmX{a b c:Str}{k1 k3:Yj}(h1:k1≠.free)(h3:k3≠.free):∀y,([(a,k1),(b,.free),(c,k3)]:List (Str×Yj)).lookup y=some .free->y=b:=λy h=>by
 simp only[QV] at h;split at h
 ·exact absurd (Qq h) h1
 ·split at h
  ·rename_i q
   exact beq_iff_eq.mp q
  ·split at h
   ·exact absurd (Qq h) h3
   ·cases h
def Qji(CS CM:Addr):DF:=λargs R EX=>∃d,args=[.v d]/\(J5 d=false->EX CS)/\∀ns,d=tI ns->Stairs ns->(20<ns.sum->EX CM)/\(ns.sum<=20->R .none)
def QlR(CZ:Addr):DF:=λargs R EX=>∃ns t,args=[.v (tI ns),.v t]/\ns.length<=6/\(inW t 0 ((ns.length:Nat):Int)=true->R .none)/\(inW t 0 ((ns.length:Nat):Int)=false->EX CZ)
def szX(val:List Int->Nat->PyData)(CS CM CZ:Addr):DF:=λargs R EX=>∃d t,args=[.v d,.v t]/\(J5 d=false->EX CS)/\∀ns,d=tI ns->Stairs ns->(20<ns.sum->EX CM)/\(ns.sum<=20->(inW t 0 ((ns.length:Nat):Int)=false->EX CZ)/\∀k:Nat,t=.int k->k<=ns.length->R (val ns k))
def QuC(CS CM CZ:Addr):DF:=szX (λns k=>.list (wtR (stC ns) (evS (stC ns) k))) CS CM CZ
def Qg1(CS CM CZ:Addr):DF:=szX (λns k=>QrP (stC ns) k) CS CM CZ
theorem QiX{a b:List Int}(h:tI a=tI b):a=b:=by
 have h:a.map Qe=b.map Qe:=PyData.tuple.inj h;rw[<- Qcv a,h,Qcv]
theorem QpR{ns:List Int}(hs:Stairs ns):¬J5 (tI ns)=false:=by rw[YO hs];exact λz=>nomatch z
theorem Qkp{t:PyData}{n:Nat}(h:inW t 0 ((n:Nat):Int)=true):∃k:Nat,t=.int k/\k<=n:=by
 obtain⟨i,rfl,i0,i1⟩:=Qh2 h;exact⟨i.toNat,by rw[Qlr i0],by omega⟩
section
variable{P:QD}{w:Je}{K:PySem.W.Frag}{mg:Str->Option Value}{base:JM}
theorem QoI:Jg ["stairs"] ["stairs"] (Qk QhF):=⟨rfl,rfl,rfl,by decide +kernel,rfl,by decide +kernel,by decide +kernel⟩
theorem QpM{f f1 CM:Addr}{fd fd1:Qy}{CS:Addr}(hB:∃t,mg "MOST_CELLS" = some (.int 20 t))(F:Fun K "refuse_too_many" "refuse_too_many" QhF f fd)(T:GlbA mg)
  (m1:mg "refuse_no_stairs" = some (.ref f1))(G1:FnOk P w K mg base (Rx.CXE P w) 4 f1 fd1 ["stairs"] (JF false (Qjh CS)))(b1:Binds K fd1 ["stairs"] [])(k1:PySem.W.keepIn K (.ref f1)=true)
  (mCM:mg "TooMany" = some (.ref CM))(qCM:PySem.W.excIn K CM Rx.mroV "ValueError.__new__" = true) :
  FnOk P w K mg base (Rx.CXE P w) 5 f fd ["stairs"] (JF false (Qji CS CM)):=by
 refine QnV false F QoI (λargs R EX h=>?_) (λcdv A outer s H E hr=>?_)
 ·obtain⟨d,rfl,_⟩:=h;rfl
 ·obtain⟨tB,mB⟩:=hB;have hU:=Room.u60 hr;have hI:=Room.i60 hr;refine⟨_,QP (QaF (Jf (J7 G1 (hr.mono (by decide)) (by rfl) m1 k1 b1 (Rx.Qcp (E:=E) (λ_ _ h=>h) rfl rfl rfl) (Zb (qv 0) Jn))))
   (Q6 (QaQ (Y3 Qtd Qbu (QK (JT (Qc8 rfl) Qgq (by rfl) T.sum QkY (Qax (qp 0) Q3))) (Jf (QgS 20 (by rfl) mB ⟨_,rfl⟩)) (Zv _)) (Q6 (Qbs (λ_ _ h=>h) mCM qCM (Jf Y5))) ZZ)),λargs R EX h=>?_⟩
  obtain⟨d,rfl,hX,hR⟩:=h;refine⟨_,rfl,λha=>?_,hX⟩;obtain⟨ns,rfl,hs⟩:=Qef ha;obtain⟨h1,h2⟩:=hR ns rfl hs;refine QfX ns rfl ?_
  exact ifC (λz=>h1 (of_decide_eq_true z)) λz=>h2 (by have:=of_decide_eq_false z;omega)
theorem QoH:Jg ["stairs", "size"] ["stairs", "size"] (Qk QhD):=⟨rfl,rfl,rfl,by decide +kernel,rfl,by decide +kernel,by decide +kernel⟩
theorem QpL{f f1 CZ:Addr}{fd fd1:Qy}(F:Fun K "refuse_no_size" "refuse_no_size" QhD f fd)(T:GlbA mg)
  (m1:mg "is_whole_within" = some (.ref f1))(G1:FnOk P w K mg base CX0 2 f1 fd1 ["thing", "least", "most"] (JF false QbM))(b1:Binds K fd1 ["thing", "least", "most"] [])(k1:PySem.W.keepIn K (.ref f1)=true)
  (mCZ:mg "NoSize" = some (.ref CZ))(qCZ:PySem.W.excIn K CZ Rx.mroV "ValueError.__new__" = true) :
  FnOk P w K mg base (Rx.CXE P w) 3 f fd ["stairs", "size"] (JF false (QlR CZ)):=by
 refine QnV false F QoH (λargs R EX h=>?_) (λcdv A outer s H E hr=>?_)
 ·obtain⟨ns,t,rfl,_⟩:=h;rfl
 ·have hU:=Room.u60 hr;have hI:=Room.i60 hr;refine⟨_,Q6 (QaQ (Qbr (Qbq (Jf (J7 G1 (hr.mono (by decide)) (by rfl) m1 k1 b1 Zh (Zb (qv 1) (Zb QR (Zb (JP (JT ZF Qaq (by rfl) T.len YE (Qax (qp 0) Q3))) Jn))))))) (Q6 (Qbs (λ_ _ h=>h) mCZ qCZ (Jf Y5))) ZZ),λargs R EX h=>?_⟩;obtain⟨ns,t,rfl,h6,hR,hX⟩:=h;have e:(ns.map Qe).length=ns.length:=Qg _;refine⟨_,_,_,rfl,?_⟩;show if(!inW t 0 (((ns.map Qe).length:Nat):Int))=true then _ else _
  rw[e];cases z:inW t 0 ((ns.length:Nat):Int) with
  |false=>exact hX z
  |true=>exact hR z
theorem Qja:Jg ["board", "stand"] ["board", "stand"] (Qk sWt):=⟨rfl,rfl,rfl,by decide +kernel,rfl,by decide +kernel,by decide +kernel⟩
theorem QjN{f f1  : Addr}{fd fd1:Qy}(F:Fun K "weight" "weight" sWt f fd)(T:GlbA mg)
  (m1:mg "cells_left" = some (.ref f1))(G1:FnOk P w K mg base CX0 2 f1 fd1 ["board", "stand"] (JF false Qhg))(b1:Binds K fd1 ["board", "stand"] [])(k1:PySem.W.keepIn K (.ref f1)=true) :
  FnOk P w K mg base CX0 3 f fd ["board", "stand"] (JF false wtD):=by
 refine okQ false F Qja (λargs R EX h=>?_) (λcdv A outer s H E hr=>?_)
 ·obtain⟨h,w,cs,L,rfl,_⟩:=h;rfl
 ·have hU:=Room.u60 hr;have hI:=Room.i60 hr;refine⟨_,Q6 (QaE (JT ZF Qaq (by rfl) T.len YE (Qax (Jf (J7 G1 (hr.mono (by decide)) (by rfl) m1 k1 b1 Zh (Zb (qv 0) (Zb (qv 1) Jn)))) Q3))),λargs R EX h=>?_⟩;obtain⟨h,w,cs,L,rfl,hR⟩:=h;refine⟨_,_,_,_,rfl,?_⟩;have hR:R (.int ((cs.filter (Qm5 L)).length:Nat)):=hR;rw[<- Qg (f:=pairD)] at hR;exact hR
theorem QgL:Jg ["stairs", "size", "board", "told", "stand"] ["stairs", "size"] (Qk sByW):=⟨rfl,rfl,rfl,by decide +kernel,rfl,by decide +kernel,by decide +kernel⟩
theorem Qtj{f f1 f2 f3 f4 f5  : Addr}{fd fd1 fd2 fd3 fd4 fd5:Qy}{CS CM CZ:Addr}(F:Fun K "by_weight" "by_weight" sByW f fd)(T:GlbA mg)
  (m1:mg "refuse_too_many" = some (.ref f1))(G1:FnOk P w K mg base (Rx.CXE P w) 5 f1 fd1 ["stairs"] (JF false (Qji CS CM)))(b1:Binds K fd1 ["stairs"] [])(k1:PySem.W.keepIn K (.ref f1)=true)
  (m2:mg "refuse_no_size" = some (.ref f2))(G2:FnOk P w K mg base (Rx.CXE P w) 3 f2 fd2 ["stairs", "size"] (JF false (QlR CZ)))(b2:Binds K fd2 ["stairs", "size"] [])(k2:PySem.W.keepIn K (.ref f2)=true)
  (m3:mg "stair_board" = some (.ref f3))(G3:FnOk P w K mg base (Rx.CXE P w) 5 f3 fd3 ["stairs"] (JF false (sbX CS)))(b3:Binds K fd3 ["stairs"] [])(k3:PySem.W.keepIn K (.ref f3)=true)
  (m4:mg "every_stand" = some (.ref f4))(G4:FnOk P w K mg base CX0 3 f4 fd4 ["board", "size"] (JF true evD))(b4:Binds K fd4 ["board", "size"] [])(k4:PySem.W.keepIn K (.ref f4)=true)
  (m5:mg "weight" = some (.ref f5))(G5:FnOk P w K mg base CX0 3 f5 fd5 ["board", "stand"] (JF false wtD))(b5:Binds K fd5 ["board", "stand"] [])(k5:PySem.W.keepIn K (.ref f5)=true) :
  FnOk P w K mg base (Rx.CXE P w) 6 f fd ["stairs", "size"] (JF true (QuC CS CM CZ)):=by
 refine QnV true F QgL (λargs R EX h=>?_) (λcdv A outer s H E hr=>?_)
 ·obtain⟨d,t,rfl,_⟩:=h;rfl
 ·have hU:=Room.u60 hr;have hI:=Room.i60 hr;refine⟨_,QP (QaF (Jf (J7 G1 (hr.mono (by decide)) (by rfl) m1 k1 b1 (Rx.Qcp (E:=E) (λ_ _ h=>h) rfl rfl rfl) (Zb (qv 0) Jn))))
   (QP (QaF (Jf (J7 G2 (hr.mono (by decide)) (by rfl) m2 k2 b2 (Rx.Qcp (E:=E) (λ_ _ h=>h) rfl rfl rfl) (Zb (qv 0) (Zb (qv 1) Jn)))))
   (QP (Yd 2 (J7 G3 (hr.mono (by decide)) (by rfl) m3 k3 b3 (Rx.Qcp (E:=E) (λ_ _ h=>h) rfl rfl rfl) (Zb (qv 0) Jn)) QgL.nd)
   (QP (QcO 3 (ZT YW QaX (QK (Y6 (JZ QR Q3))) (QK (ZT Z0 Yx (QK (JT (Qc8 rfl) Qgq (by rfl) T.sum QkY (Qax (qp 0) Q3))) (Jf QR)))) QgL.nd)
   (QP (QnL (QcP Zs rfl (QcS (JP (Z5 G4 (hr.mono (by decide)) (by rfl) m4 k4 b4 Zh (Zb (qv 2) (Zb (qv 1) Jn))))) (Zm 4 QgL.nd rfl (by first | exact Q0 rfl | exact Q8 rfl))
    (Q6 (Qjq 3 QnY QjW (Jf (J7 G5 (hr.mono (by decide)) (by rfl) m5 k5 b5 Zh (Zb (qv 2) (Zb (qv 4) Jn)))) (Jf QR)))))
   (Q6 (Qel 3)))))),λargs R EX h=>?_⟩
  obtain⟨d,t,rfl,hX,hR⟩:=h;refine⟨_,rfl,hX,λns ea hs=>⟨(hR ns ea hs).1,λh20=>?_⟩⟩;subst ea;obtain⟨hZ,hR⟩:=(hR ns rfl hs).2 h20;refine⟨ns,t,rfl,hs.l6,λhw=>?_,hZ⟩;obtain⟨k,rfl,hk⟩:=Qkp hw;have hR:=hR k rfl hk;refine⟨_,rfl,λha=>absurd ha (QpR hs),λns2 ea hs2=>?_⟩;obtain rfl:=QiX ea;have g:=Qfn hs;have h6:=hs.l6;have hc:=QfZ hs;have es:=Qi3 hs;refine QfX ns rfl ⟨⟨by omega,by omega,by show 1*_<=_;omega⟩,?_⟩;rw[Qos (stC ns) es];refine⟨_,_,_,_,rfl,g,by omega,?_⟩;refine Qby (λj δ=>∃ds x4,δ=[.v (tI ns),.v (.int k),.v (sBd ns),.own ds,x4]/\ds=wtR (stC ns) ((evS (stC ns) k).take j)) ⟨_,_,rfl,rfl⟩ ?_ ?_
  ·rintro j d δ hd ⟨ds,x4,rfl,rfl⟩;rw[Qz] at hd;obtain⟨L,eL,rfl⟩:∃L,(evS (stC ns) k)[j]? = some L/\d=stT L:=by
    cases e:(evS (stC ns) k)[j]? with
    |none=>rw[e] at hd;cases hd
    |some p=>rw[e] at hd;cases hd;exact⟨p,rfl,rfl⟩
   refine⟨_,_,_,_,rfl,wt (stC ns) L,_,?_,Qr4 L,?_⟩
   ·rw[Qou];exact Qki (by have:=Qot (stC ns) L;omega)
   ·exact⟨_,_,rfl,Qr3 eL⟩
  ·rintro δ ⟨ds,x4,rfl,rfl⟩;rw[Qg,ZM];exact hR
end
section
variable{P:QD}{w:Je}{K:PySem.W.Frag}{mg:Str->Option Value}{base:JM}
theorem QgJ:Jg ["stairs", "size", "board"] ["stairs", "size"] (Qk Qdy):=⟨rfl,rfl,rfl,by decide +kernel,rfl,by decide +kernel,by decide +kernel⟩
theorem QmH{tc tP f f1 f2 f3 f4 f5  : Addr}{fd fd1 fd2 fd3 fd4 fd5:Qy}{CS CM CZ:Addr}(hcd:fd.code=.ref tc)(hC:PySem.W.CodeHd base tc tP)(hB:Qa0 base mg)(F:Fun K "lightest" "lightest" Qdy f fd)(T:GlbA mg)
  (m1:mg "refuse_too_many" = some (.ref f1))(G1:FnOk P w K mg base (Rx.CXE P w) 5 f1 fd1 ["stairs"] (JF false (Qji CS CM)))(b1:Binds K fd1 ["stairs"] [])(k1:PySem.W.keepIn K (.ref f1)=true)
  (m2:mg "refuse_no_size" = some (.ref f2))(G2:FnOk P w K mg base (Rx.CXE P w) 3 f2 fd2 ["stairs", "size"] (JF false (QlR CZ)))(b2:Binds K fd2 ["stairs", "size"] [])(k2:PySem.W.keepIn K (.ref f2)=true)
  (m3:mg "stair_board" = some (.ref f3))(G3:FnOk P w K mg base (Rx.CXE P w) 5 f3 fd3 ["stairs"] (JF false (sbX CS)))(b3:Binds K fd3 ["stairs"] [])(k3:PySem.W.keepIn K (.ref f3)=true)
  (m4:mg "every_stand" = some (.ref f4))(G4:FnOk P w K mg base CX0 3 f4 fd4 ["board", "size"] (JF true evD))(b4:Binds K fd4 ["board", "size"] [])(k4:PySem.W.keepIn K (.ref f4)=true)
  (m5:mg "weight" = some (.ref f5))(G5:FnOk P w K mg base CX0 3 f5 fd5 ["board", "stand"] (JF false wtD))(b5:Binds K fd5 ["board", "stand"] [])(k5:PySem.W.keepIn K (.ref f5)=true) :
  FnOk P w K mg base (Rx.CXE P w) 6 f fd ["stairs", "size"] (spT tP Qm4 (JF false (Qg1 CS CM CZ))):=by
 refine QvL false F hcd QgJ (λargs R EX h=>?_) (λA outer s H E hr hT=>?_)
 ·obtain⟨d,t,rfl,_⟩:=h;rfl
 ·have hU:=Room.u60 hr;have hI:=Room.i60 hr;refine⟨_,QP (QaF (Jf (J7 G1 (hr.mono (by decide)) (by rfl) m1 k1 b1 (Rx.Qcp (E:=E) (λ_ _ h=>h) rfl rfl rfl) (Zb (qv 0) Jn))))
   (QP (QaF (Jf (J7 G2 (hr.mono (by decide)) (by rfl) m2 k2 b2 (Rx.Qcp (E:=E) (λ_ _ h=>h) rfl rfl rfl) (Zb (qv 0) (Zb (qv 1) Jn)))))
   (QP (Yd 2 (J7 G3 (hr.mono (by decide)) (by rfl) m3 k3 b3 (Rx.Qcp (E:=E) (λ_ _ h=>h) rfl rfl rfl) (Zb (qv 0) Jn)) QgJ.nd)
   (Q6 (ZJ (QlV (cb:=s.heap.objs.size+1) 2 G5 (hr.mono (by decide)) (by rfl) T.min b5 m5 k5 hT hC hB rfl rfl rfl (QK (Z5 G4 (hr.mono (by decide)) (by rfl) m4 k4 b4 Zh (Zb (qv 2) (Zb (qv 1) Jn)))) rfl rfl rfl rfl rfl rfl rfl (by decide +kernel) rfl rfl (QmX (by decide) (by decide)) rfl (by decide) (by decide) (by decide) (by decide) (by decide) (λ_ _ _ _=>rfl) rfl rfl))))),λargs R EX h=>?_⟩
  obtain⟨d,t,rfl,hX,hR⟩:=h;refine⟨_,rfl,hX,λns ea hs=>⟨(hR ns ea hs).1,λh20=>?_⟩⟩;subst ea;obtain⟨hZ,hR⟩:=(hR ns rfl hs).2 h20;refine⟨ns,t,rfl,hs.l6,λhw=>?_,hZ⟩;obtain⟨k,rfl,hk⟩:=Qkp hw;have hR:=hR k rfl hk;refine⟨_,rfl,λha=>absurd ha (QpR hs),λns2 ea hs2=>?_⟩;obtain rfl:=QiX ea;have g:=Qfn hs;have h6:=hs.l6;have hc:=QfZ hs;have es:=Qi3 hs;refine⟨_,_,_,_,rfl,g,by omega,?_⟩;show Qb0 wtD (sBd ns) (.list ((evS (stC ns) k).map stT)) R;have hR:R (QrP (stC ns) k):=hR;have gt:∀(i:Nat) d,((evS (stC ns) k).map stT)[i]? = some d->∃L,(evS (stC ns) k)[i]? = some L/\d=stT L:=λi d hd=>by
   rw[Qz] at hd;cases e:(evS (stC ns) k)[i]? with
   |none=>rw[e] at hd;cases hd
   |some p=>rw[e] at hd;cases hd;exact⟨p,rfl,rfl⟩
  refine Qj9 (wtV (stC ns) k) (λi d hd=>?_) (λe=>?_) λd hd=>?_
  ·obtain⟨L,eL,rfl⟩:=gt i d hd;refine⟨_,_,stC ns,L,rfl,?_⟩;unfold wtV;rw[Q2,eL];rfl
  ·have e:=List.map_eq_nil_iff.mp e;have:QrP (stC ns) k=.none:=by unfold QrP QvN;rw[e];rfl
   rw[this] at hR;exact hR
  ·rw[Qg] at hd;obtain⟨L,eL,rfl⟩:=gt _ d hd;have:QrP (stC ns) k=stT L:=by unfold QrP QvN;rw[eL]
   rw[this] at hR;exact hR
end
def hdL(ns:List Int):List Int:=(Q9 ns.length).map λi=>ns.getD i 0 - (i:Int)
def QrQ(x:Int):List Int->List Int
 |[]=>[x]
 |y::r=>if x<=y then x::y::r else y::QrQ x r
def Qut:List Int->List Int
 |[]=>[]
 |x::r=>QrQ x (Qut r)
theorem Qc0(x:Int):∀l:List Int,(QrQ x l).Perm (x::l)
 |[]=>.refl _
 |y::r=>by
  unfold QrQ;split
  ·exact .refl _
  ·exact((Qc0 x r).cons y).trans (.swap _ _ _)
theorem Qbo:∀l:List Int,(Qut l).Perm l
 |[]=>.nil
 |x::r=>(Qc0 x _).trans ((Qbo r).cons x)
theorem Qkn(x:Int):∀l:List Int,l.Pairwise (·<=·)->(QrQ x l).Pairwise (·<=·)
 |[],_=>Qgy _ _
 |y::r,h=>by
  obtain⟨h1,h2⟩:=List.pairwise_cons.mp h;unfold QrQ;split
  ·rename_i q
   exact .cons (λz hz=>(Qx.mp hz).elim (λe=>e ▸ q) λhz=>Qdq q (h1 z hz)) h
  ·rename_i q
   refine .cons (λz hz=>?_) (Qkn x r h2);rcases Qx.mp ((Qc0 x r).mem_iff.mp hz) with e | e
   ·rw[e];omega
   ·exact h1 z e
theorem Qi4:∀l:List Int,(Qut l).Pairwise (·<=·)
 |[]=>.nil
 |x::r=>Qkn x _ (Qi4 r)
theorem QoB{a b:List Int}(p:a.Perm b)(h1:a.Pairwise (·<=·))(h2:b.Pairwise (·<=·)):a=b:=List.Perm.eq_of_pairwise (le:=λa b=>a<=b) (λa b _ _ h1 h2=>Int.le_antisymm h1 h2) h1 h2 p
theorem Qrl(ns:List Int):(Qc4 (ns.map Qe)).map (λd=>match d with | .tuple [.int p,.int n]=>Qe (n - p) | _=>.none)=(hdL ns).map Qe:=by
 unfold Qc4 hdL;rw[Jj,Jj,Qg];refine Zi λi hi=>?_
 have hi:=JI.mp hi;have e:(ns.map Qe).getD i .none=.int (ns.getD i 0):=by
  rw[Q2,Qz,Qm hi,Q2,Qm hi];rfl
 show(match QaR [.int i,(ns.map Qe).getD i .none] with | .tuple [.int p,.int n]=>Qe (n - p) | _=>.none)=_;rw[e];rfl
theorem QvY{ns:List Int}(hs:Stairs ns){m:Int}(h:m∈hdL ns) : -6<=m/\m<=6:=by
 unfold hdL at h;obtain⟨i,hi,rfl⟩:=QU.mp h;have hi:=JI.mp hi;have:=hs.bd _ (getD_mem hi);have:=hs.l6;omega
def cwT(a b:List Int)(i k:Nat):Int:=if i<=k then a.getD i 0*b.getD (k - i) 0 else 0
def cwS(a b:List Int):List Int:=(Q9 (a.length+b.length - 1)).map λk=>QiZ a.length λi=>cwT a b i k
def Qp0:DF:=λargs R _=>∃a b:List Int,args=[.v (.list (a.map Qe)),.v (.list (b.map Qe))]/\1<=a.length/\a.length<=500/\1<=b.length/\b.length<=500/\(∀y∈b,-(2^64)<y/\y<2^64)/\R (.list ((cwS a b).map Qe))
def mlR(a b:List Int)(n i j:Nat):List PyData:=(Q9 n).map λk=>.int (QiZ i (λi=>cwT a b i k)+(if i<=k/\k<i+j then a.getD i 0*b.getD (k - i) 0 else 0))
theorem Qj8(a b:List Int)(n i j:Nat):(mlR a b n i j).length=n:=by unfold mlR;rw[Qg,Ja]
theorem Qj7(a b:List Int)(n:Nat):(Qv n [Qe 0]).flatten=mlR a b n 0 0:=by
 have e:∀n,(Qv n [Qe 0]).flatten=Qv n (Qe 0):=λn=>by
  induction n with
  |zero=>rfl
  |succ n ih=>rw[Jm,JW,ih,Jm];rfl
 rw[e];unfold mlR;refine QaB λk=>?_
 rw[Yk,Qz];by_cases hk:k<n
 ·rw[if_pos hk,JV hk];show _=some (Qe (0+(if 0<=k/\k<0+0 then _ else 0)));rw[if_neg (by omega)];rfl
 ·rw[if_neg hk,JA (by rw[Ja];omega)];rfl
theorem QmT{a b:List Int}{n i j:Nat}(hj:j<b.length)(hn:i+j<n):(mlR a b n i j).set (i+j) (.int (QiZ i (λi'=>cwT a b i' (i+j))+(if i<=i+j/\i+j<i+j then a.getD i 0*b.getD (i+j - i) 0 else 0)+a.getD i 0*b.getD j 0))=mlR a b n i (j+1):=by
 refine QaB λk=>?_
 rw[QaA,Qj8];unfold mlR;by_cases z:i+j=k
 ·subst z;rw[if_pos rfl,if_pos hn,Qz,JV hn];show some (Qe (QiZ i (λi'=>cwT a b i' (i+j))+(if i<=i+j/\i+j<i+j then a.getD i 0*b.getD (i+j - i) 0 else 0)+a.getD i 0*b.getD j 0))=some (Qe (QiZ i (λi'=>cwT a b i' (i+j))+(if i<=i+j/\i+j<i+(j+1) then a.getD i 0*b.getD (i+j - i) 0 else 0)));rw[if_neg (by omega),if_pos (by omega),Nat.add_sub_cancel_left,Int.add_zero]
 ·rw[if_neg z,Qz,Qz];by_cases hk:k<n
  ·rw[JV hk];show some (Qe _)=some (Qe _);have:(i<=k/\k<i+j)↔(i<=k/\k<i+(j+1)):=by omega
   by_cases y:i<=k/\k<i+j
   ·rw[if_pos y,if_pos (this.mp y)]
   ·rw[if_neg y,if_neg λq=>y (this.mpr q)]
  ·rw[JA (by rw[Ja];omega)];rfl
theorem Qp1{a b:List Int}{n i:Nat}:mlR a b n i b.length=mlR a b n (i+1) 0:=by
 unfold mlR;refine Zi λk _=>?_
 show Qe (QiZ i (λi=>cwT a b i k)+_)=Qe ((QiZ i (λi=>cwT a b i k)+cwT a b i k)+_);rw[if_neg (by omega:¬(i+1<=k/\k<i+1+0))]
 congr 1
 unfold cwT;by_cases y:i<=k
 ·by_cases x:k<i+b.length
  ·rw[if_pos ⟨y,x⟩,if_pos y];omega
  ·rw[if_neg λq=>x q.2,if_pos y,show b.getD (k - i) 0=0 by rw[Q2,JA (by omega)];rfl];omega
 ·rw[if_neg λq=>y q.1,if_neg y];omega
theorem Qh3(ns:List Int):QtJ (.list (ns.map Qe))=true:=J6.mpr λd hd=>by
 obtain⟨i,_,rfl⟩:=QU.mp hd;rfl
def hdS(ns:List Int):List Int:=Qut (hdL ns)
def Qks:DF:=λargs R _=>∃ns,args=[.v (tI ns)]/\Stairs ns/\R (.list ((hdS ns).map Qe))
def tmS(a b:List Int):List Int:=if a=[]∨b=[] then[] else cwS a b
def Y7(n:Int):List Int:=Qv n.toNat 1
def prS(m:Int)(hs:List Int)(t:List Int):List Int:=hs.foldl (λt h=>tmS t (Y7 (m+h))) t
def opL(m:Int)(ns:List Int):List Int:=prS m (hdS ns) [1]
theorem QpH(n:Int):(Qv n.toNat [Qe 1]).flatten=(Y7 n).map Qe:=by
 unfold Y7;rw[List.map_replicate];generalize n.toNat=k;induction k with
 |zero=>rfl
 |succ k ih=>rw[Jm,JW,ih,Jm];rfl
theorem Qjt(m:Int):∀hs:List Int,prS m hs []=[]
 |[]=>rfl
 |h::hs=>by
  show prS m hs (tmS [] (Y7 (m+h)))=[];rw[show tmS [] (Y7 (m+h))=[] from if_pos (.inl rfl)];exact Qjt m hs
theorem QgT{m h:Int}(hh:m+h<=0):∀{hs:List Int}(t:List Int),h∈hs->prS m hs t=[]
 |x::hs,t,hm=>by
  show prS m hs (tmS t (Y7 (m+x)))=[];rcases Qx.mp hm with e | e
  ·have:Y7 (m+x)=[]:=by
    unfold Y7;rw[<- e,show(m+h).toNat=0 by omega];rfl
   rw[this,show tmS t []=[] from if_pos (.inr rfl)];exact Qjt m hs
  ·exact QgT hh _ e
theorem Qn1{ns:List Int}(hs:Stairs ns){x:Int}(h:x∈hdS ns) : -6<=x/\x<=6:=QvY hs ((Qbo _).mem_iff.mp h)
theorem Qre(ns:List Int):(hdS ns).length=ns.length:=by
 unfold hdS;rw[(Qbo _).length_eq];unfold hdL;rw[Qg,Ja]
theorem QkJ(a b:List Int):(cwS a b).length=a.length+b.length - 1:=by unfold cwS;rw[Qg,Ja]
theorem Qeo{m:Int}{hs:List Int}{j:Nat}{h:Int}(e:hs[j]? = some h):prS m (hs.take (j+1)) [1]=tmS (prS m (hs.take j) [1]) (Y7 (m+h)):=by
 unfold prS;rw[Zf,e,List.foldl_append];rfl
theorem Qju{m:Int}(m8:m<=8){hs:List Int}(hb:∀x∈hs,x<=6):∀j,(prS m (hs.take j) [1]).length<=1+14*j
 |0=>by show([1]:List Int).length<=_;simp
 |j+1=>by
  have ih:=Qju m8 hb j;cases e:hs[j]? with
  |none=>
   have:hs.take (j+1)=hs.take j:=by rw[Zf,e];simp
   rw[this];omega
  |some h=>
   rw[Qeo e];have hh:=hb h (QM e);unfold tmS;split
   ·show 0<=_;omega
   ·rw[QkJ];have:(Y7 (m+h)).length<=14:=by unfold Y7;rw[Zq];omega
    omega
theorem QnR{m:Int}{hs:List Int}(hb:∀x∈hs,0<m+x):∀j,prS m (hs.take j) [1]≠[]
 |0=>λe=>nomatch e
 |j+1=>by
  have ih:=QnR hb j;cases e:hs[j]? with
  |none=>
   have:hs.take (j+1)=hs.take j:=by rw[Zf,e];simp
   rw[this];exact ih
  |some h=>
   rw[Qeo e];have hh:=hb h (QM e);have ho:(Y7 (m+h)).length≠0:=by unfold Y7;rw[Zq];omega
   have hne:Y7 (m+h)≠[]:=λz=>by rw[z] at ho;exact ho rfl
   unfold tmS;rw[if_neg (λz=>z.elim ih hne)];intro z;have l1:=congrArg List.length z;rw[QkJ] at l1;have l1:_+_ - 1=0:=l1;have lp:0<(prS m (hs.take j) [1]).length:=Qlf.mpr ih;omega
def QmA(CS CM CO:Addr):DF:=λargs R EX=>∃d t,args=[.v d,.v t]/\(J5 d=false->EX CS)/\∀ns,d=tI ns->Stairs ns->(20<ns.sum->EX CM)/\(ns.sum<=20->(inW t 0 8=false->EX CO)/\∀m:Int,t=.int m->0<=m->m<=8->R (.list ((opL m ns).map Qe)))
section
variable{P:QD}{w:Je}{K:PySem.W.Frag}{mg:Str->Option Value}{base:JM}
theorem Qff:(["place", "number"]:List Str).Nodup:=by decide +kernel
theorem QlJ:Jg ["stairs"] ["stairs"] (Qk QdA):=⟨rfl,rfl,rfl,by decide +kernel,rfl,by decide +kernel,by decide +kernel⟩
theorem QmJ{f f1  : Addr}{fd fd1:Qy}{CS:Addr}(F:Fun K "heads" "heads" QdA f fd)(T:GlbA mg)
  (m1:mg "refuse_no_stairs" = some (.ref f1))(G1:FnOk P w K mg base (Rx.CXE P w) 4 f1 fd1 ["stairs"] (JF false (Qjh CS)))(b1:Binds K fd1 ["stairs"] [])(k1:PySem.W.keepIn K (.ref f1)=true) :
  FnOk P w K mg base (Rx.CXE P w) 5 f fd ["stairs"] (JF true Qks):=by
 refine QnV true F QlJ (λargs R EX h=>?_) (λcdv A outer s H E hr=>?_)
 ·obtain⟨ns,rfl,_⟩:=h;rfl
 ·have hU:=Room.u60 hr;have hI:=Room.i60 hr;refine⟨_,QP (QaF (Jf (J7 G1 (hr.mono (by decide)) (by rfl) m1 k1 b1 (Rx.Qcp (E:=E) (λ_ _ h=>h) rfl rfl rfl) (Zb (qv 0) Jn))))
   (Q6 (QaE (JT Qh9 Qrv (by rfl) T.sorted QkZ (Qax (QK (QaV ["place", "number"] [none,none] (QgP (by rfl) T.enumerate (qp 0)) (λcl ex s3 H3 C=>⟨(QaT rfl (Zn 0 (Zn 1 QaU Qff rfl (Q0 rfl) (Q8 rfl)) Qff rfl (Q0 rfl) (Q8 rfl))),Zt,(JP (ZT Qfc Qg0 (qp 1) (qp 0)))⟩))) Q3)))),λargs R EX h=>?_⟩
  obtain⟨ns,rfl,hs,hR⟩:=h;refine⟨_,rfl,λ_=>?_,λha=>absurd ha (QpR hs)⟩;refine Yg (λd=>match d with | .tuple [.int p,.int n]=>.int (n - p) | _=>.none) (λd hd k2 hk=>?_) ?_
  ·obtain⟨i,hi⟩:=Q7.mp hd;obtain⟨e,he,rfl⟩:=QaL hi;obtain⟨m,_,rfl⟩:=QU.mp (QM he);exact⟨rfl,hk⟩
  ·rw[Qrl];have l6:=hs.l6;exact(QoC (ds:=(hdL ns).map Qe) (ns:=hdL ns) (Qcb _) (by unfold hdL;rw[Qg,Ja];omega) λms pm pw=>by rw[show ms=hdS ns from QoB (pm.trans (Qbo _).symm) pw (Qi4 _)];exact hR).1
theorem QbP:Jg ["one", "other", "told", "at", "number", "further", "factor"] ["one", "other"] (Qk QhH):=⟨rfl,rfl,rfl,by decide +kernel,rfl,by decide +kernel,by decide +kernel⟩
theorem QpO{f   : Addr}{fd  : Qy}(F:Fun K "multiplied" "multiplied" QhH f fd)(T:GlbA mg) :
  FnOk P w K mg base CX0 1 f fd ["one", "other"] (JF true Qp0):=by
 refine okQ true F QbP (λargs R EX h=>?_) (λcdv A outer s H E hr=>?_)
 ·obtain⟨a,b,rfl,_⟩:=h;rfl
 ·have hU:=Room.u60 hr;have hI:=Room.i60 hr;refine⟨_,QP (QcO 2 (ZT YW QaX (QK (Y6 (JZ QR Q3))) (QK (ZT Qfc Qg0 (QK (ZT Z0 Yx (QK (JT ZF Qaq (by rfl) T.len YE (Qax (qp 0) Q3))) (QK (JT ZF Qaq (by rfl) T.len YE (Qax (qp 1) Q3))))) (Jf QR)))) QbP.nd)
   (QP (QcP Zs rfl (QgQ (by rfl) T.enumerate (qv 0)) (QaT rfl (Zn 3 (Zn 4 QaU QbP.nd rfl (by first | exact Q0 rfl | exact Q8 rfl)) QbP.nd rfl (by first | exact Q0 rfl | exact Q8 rfl)))
    (Q6 (QcP Zs rfl (QgQ (by rfl) T.enumerate (qv 1)) (QaT rfl (Zn 5 (Zn 6 QaU QbP.nd rfl (by first | exact Q0 rfl | exact Q8 rfl)) QbP.nd rfl (by first | exact Q0 rfl | exact Q8 rfl)))
    (Q6 (Qjq 2 QnY QjW (QK (ZT Z0 Yx (qp 3) (qp 5))) (QK (ZT YW QaX (qp 4) (qp 6))))))))
   (Q6 (Qel 2))),λargs R EX h=>?_⟩
  obtain⟨a,b,rfl,a1,a5,b1,b5,hb,hR⟩:=h;have la:=Qwv a;have lb:=Qwv b;refine⟨⟨by omega,by omega,by show 1*_<=_;omega⟩,?_⟩;have en:(((a.map Qe).length:Int)+((b.map Qe).length:Int) - 1).toNat=a.length+b.length - 1:=by omega
  rw[en,Qj7 a b];refine Qby (λi δ=>∃x3 x4 x5 x6,δ=[.v (.list (a.map Qe)),.v (.list (b.map Qe)),.own (mlR a b (a.length+b.length - 1) i 0),x3,x4,x5,x6]) ⟨_,_,_,_,rfl⟩ ?_ ?_
  ·rintro i d δ hd ⟨x3,x4,x5,x6,rfl⟩;obtain⟨e,he,rfl⟩:=QaL hd;rw[Qz] at he;obtain⟨x,ex,rfl⟩:∃x,a[i]? = some x/\e=.int x:=by
    cases z:a[i]? with
    |none=>rw[z] at he;cases he
    |some x=>rw[z] at he;cases he;exact⟨x,rfl,rfl⟩
   have hi:i<a.length:=(Qw.mp ex).1;have gx:a.getD i 0=x:=by rw[Q2,ex];rfl
   refine⟨rfl,Qby (λj δ=>∃x5 x6,δ=[.v (.list (a.map Qe)),.v (.list (b.map Qe)),.own (mlR a b (a.length+b.length - 1) i j),.v (.int i),.v (.int x),x5,x6]) ⟨_,_,rfl⟩ ?_ ?_⟩
   ·rintro j d δ hd2 ⟨x5,x6,rfl⟩;obtain⟨e,he2,rfl⟩:=QaL hd2;rw[Qz] at he2;obtain⟨y,ey,rfl⟩:∃y,b[j]? = some y/\e=.int y:=by
     cases z:b[j]? with
     |none=>rw[z] at he2;cases he2
     |some x=>rw[z] at he2;cases he2;exact⟨x,rfl,rfl⟩
    have hj:j<b.length:=(Qw.mp ey).1;have gy:b.getD j 0=y:=by rw[Q2,ey];rfl
    have hn:i+j<a.length+b.length - 1:=by omega
    have by_:=hb y (QM ey);refine⟨rfl,i+j,.int (QiZ i (λi'=>cwT a b i' (i+j))+(if i<=i+j/\i+j<i+j then a.getD i 0*b.getD (i+j - i) 0 else 0)),?_,?_,.inl (.inr by_),.v (.int j),.v (.int y),?_⟩
    ·rw[Qj8,<- Int.natCast_add];exact Qki hn
    ·unfold mlR;rw[Qz,JV hn];rfl
    ·rw[<- QmT hj hn,gx,gy];rfl
   ·rintro δ ⟨x5,x6,rfl⟩;rw[Qaj,lb,Qp1];exact⟨_,_,_,_,rfl⟩
  ·rintro δ ⟨x3,x4,x5,x6,rfl⟩;rw[Qaj,la];have e:mlR a b (a.length+b.length - 1) a.length 0=(cwS a b).map Qe:=by
    unfold mlR cwS;rw[Jj];refine Zi λk _=>?_
    show Qe (QiZ a.length (λi=>cwT a b i k)+(if a.length<=k/\k<a.length+0 then a.getD a.length 0*b.getD (k - a.length) 0 else 0))=Qe (QiZ a.length λi=>cwT a b i k);rw[if_neg (by omega),Int.add_zero]
   rw[e];exact hR
end
section
variable{P:QD}{w:Je}{K:PySem.W.Frag}{mg:Str->Option Value}{base:JM}
theorem QmQ:(["head", "number"]:List Str).Nodup:=by decide +kernel
theorem QcL:Jg ["stairs", "number", "lengths", "told", "length"] ["stairs", "number"] (Qk QhG):=⟨rfl,rfl,rfl,by decide +kernel,rfl,by decide +kernel,by decide +kernel⟩
theorem QpN{f f1 f2 f3 f4 CO:Addr}{fd fd1 fd2 fd3 fd4:Qy}{CS CM:Addr}(hC:∃t,mg "MOST_ADDED" = some (.int 8 t))(F:Fun K "ones_product" "ones_product" QhG f fd)(T:GlbA mg)
  (m1:mg "refuse_too_many" = some (.ref f1))(G1:FnOk P w K mg base (Rx.CXE P w) 5 f1 fd1 ["stairs"] (JF false (Qji CS CM)))(b1:Binds K fd1 ["stairs"] [])(k1:PySem.W.keepIn K (.ref f1)=true)
  (m2:mg "is_whole_within" = some (.ref f2))(G2:FnOk P w K mg base CX0 2 f2 fd2 ["thing", "least", "most"] (JF false QbM))(b2:Binds K fd2 ["thing", "least", "most"] [])(k2:PySem.W.keepIn K (.ref f2)=true)
  (m3:mg "heads" = some (.ref f3))(G3:FnOk P w K mg base (Rx.CXE P w) 5 f3 fd3 ["stairs"] (JF true Qks))(b3:Binds K fd3 ["stairs"] [])(k3:PySem.W.keepIn K (.ref f3)=true)
  (m4:mg "multiplied" = some (.ref f4))(G4:FnOk P w K mg base CX0 1 f4 fd4 ["one", "other"] (JF true Qp0))(b4:Binds K fd4 ["one", "other"] [])(k4:PySem.W.keepIn K (.ref f4)=true)
  (mCO:mg "NoNumber" = some (.ref CO))(qCO:PySem.W.excIn K CO Rx.mroV "ValueError.__new__" = true) :
  FnOk P w K mg base (Rx.CXE P w) 6 f fd ["stairs", "number"] (JF true (QmA CS CM CO)):=by
 refine QnV true F QcL (λargs R EX h=>?_) (λcdv A outer s H E hr=>?_)
 ·obtain⟨d,t,rfl,_⟩:=h;rfl
 ·obtain⟨tC,mC⟩:=hC;have hU:=Room.u60 hr;have hI:=Room.i60 hr;refine⟨_,QP (QaF (Jf (J7 G1 (hr.mono (by decide)) (by rfl) m1 k1 b1 (Rx.Qcp (E:=E) (λ_ _ h=>h) rfl rfl rfl) (Zb (qv 0) Jn))))
   (QP (QaQ (Qbr (Qbq (Jf (J7 G2 (hr.mono (by decide)) (by rfl) m2 k2 b2 Zh (Zb (qv 1) (Zb QR (Zb (QgS 8 (by rfl) mC ⟨_,rfl⟩) Jn))))))) (Q6 (Qbs (λ_ _ h=>h) mCO qCO (Jf Y5))) ZZ)
   (QP (Qf5 ["head", "number"] [none,some 1] 2 QcL.nd (QcS (QK (Z5 G3 (hr.mono (by decide)) (by rfl) m3 k3 b3 (Rx.Qcp (E:=E) (λ_ _ h=>h) rfl rfl rfl) (Zb (qv 0) Jn)))) (λcl ex s3 H3 C=>⟨(Zm 0 QmQ rfl (Q0 rfl) (Q8 rfl)),Zt,(JP (ZT Z0 Yx (qp 1) (qp 0)))⟩))
   (QP (QaQ (Y3 Qgc Qbu (QK (JT (QkV rfl) Qrw (by rfl) T.min Qk0 (Qax (qp 2) Q3))) (Jf QR) (Zv _)) (Q6 (QaE (Y6 Q3))) ZZ)
   (QP (QcO 3 (Y6 (JZ QR Q3)) QcL.nd)
   (QP (QnL (QcP Zs rfl (QcS (qv 2)) (Zm 4 QcL.nd rfl (by first | exact Q0 rfl | exact Q8 rfl))
    (Q6 (QcO 3 (QoX G4 (hr.mono (by decide)) (by rfl) m4 k4 b4 Zh (Qax (qp 3) (Qax (QK (ZT YW QaX (QK (Y6 (JZ QR Q3))) (qp 4))) Q3))) QcL.nd))))
   (Q6 (Qel 3))))))),λargs R EX h=>?_⟩
  obtain⟨d,t,rfl,hX,hR⟩:=h;refine⟨_,rfl,hX,λns ea hs=>⟨(hR ns ea hs).1,λh20=>?_⟩⟩;subst ea;obtain⟨hZ,hR⟩:=(hR ns rfl hs).2 h20;refine⟨_,_,_,rfl,?_⟩;show if(!inW t 0 8)=true then _ else _
  cases hw:inW t 0 8 with
  |false=>exact hZ hw
  |true=>
  obtain⟨m,rfl,m0,m8⟩:=Qh2 hw;have hR:=hR m rfl m0 m8;refine ifF rfl ?_
  refine⟨ns,rfl,hs,Yg (λd=>.int (m+toI d)) (λd hd k2 hk=>?_) ?_⟩
  ·obtain⟨i,_,rfl⟩:=QU.mp hd;exact hk
  have e:((hdS ns).map Qe).map (λd=>Qe (m+toI d))=((hdS ns).map λh=>m+h).map Qe:=by rw[Jj,Jj];rfl
  rw[e];have l1:=hs.l1;have l6:=hs.l6;have lh:=Qre ns;refine Qp2 ((hdS ns).map λh=>m+h) rfl (by rw[Qg];omega) λv hv hl=>?_
  refine ifC (λz=>?_) λz=>?_
  ·obtain⟨h,hh,rfl⟩:=QU.mp hv;have:opL m ns=[]:=QgT (of_decide_eq_true z) _ hh;rw[this] at hR;exact hR
  ·have pos:∀x∈hdS ns,0<m+x:=λx hx=>by
    have h1:=hl _ (List.mem_map_of_mem (f:=λh=>m+h) hx);have h2:=of_decide_eq_false z;omega
   refine Qby (λj δ=>∃x4,δ=[.v (tI ns),.v (.int m),.v (.list (((hdS ns).map λh=>m+h).map Qe)),.own ((prS m ((hdS ns).take j) [1]).map Qe),x4]) ⟨_,rfl⟩ ?_ ?_
   ·rintro j d δ hd ⟨x4,rfl⟩;rw[Qz,Qz] at hd;obtain⟨h,eh,rfl⟩:∃h,(hdS ns)[j]? = some h/\d=.int (m+h):=by
     cases q:(hdS ns)[j]? with
     |none=>rw[q] at hd;cases hd
     |some p=>rw[q] at hd;cases hd;exact⟨p,rfl,rfl⟩
    have hj:j<(hdS ns).length:=(Qw.mp eh).1;have hm:=QM eh;have bd:=Qn1 hs hm;have p0:=pos h hm;have pl:=Qju (m:=m) m8 (λx hx=>(Qn1 hs hx).2) j;have pne:=QnR pos j;have pn:=Qlf.mpr pne;have lo:(Y7 (m+h)).length=(m+h).toNat:=by unfold Y7;rw[Zq]
    have one:Y7 (m+h)≠[]:=λz=>by rw[z] at lo;have lo:0=(m+h).toNat:=lo;omega
    refine⟨⟨by omega,by omega,by show 1*_<=_;omega⟩,prS m ((hdS ns).take j) [1],Y7 (m+h),?_,by omega,by omega,by omega,by omega,λy hy=>?_,Qh3 _,.v (.int (m+h)),?_⟩
    ·rw[QpH];rfl
    ·rw[List.eq_of_mem_replicate hy];decide
    ·rw[Qeo eh,show tmS (prS m ((hdS ns).take j) [1]) (Y7 (m+h))=cwS (prS m ((hdS ns).take j) [1]) (Y7 (m+h)) from if_neg λz=>z.elim pne one];rfl
   ·rintro δ ⟨x4,rfl⟩;rw[Qg,Qg,ZM];exact hR
end
end Rk
namespace Rk
open L2 _root_.Rd
section
variable{P:QD}{w:Je}{K:PySem.W.Frag}{mg:Str->Option Value}{base:JM}
theorem QcN:Jg ["_law_e", "_law_some", "_law_words"] ["_law_e"] (Qk QhZ):=⟨rfl,rfl,rfl,by decide +kernel,rfl,by decide +kernel,by decide +kernel⟩
theorem QpP{f c1 c2 c3 c4 c5 c6 c7 c8 c9 c10 c11 c12 c13 c14 c15 c16 c17 c18 c19:Addr}{fd:Qy}(F:Fun K "_law_kind_of" "_law_kind_of" QhZ f fd)(T:GlbA mg)(mV:mg "ValueError" = none)
  (m1:mg "NoOrder" = some (.ref c1))(m2:mg "NoSize" = some (.ref c2))(m3:mg "TooMany" = some (.ref c3))(m4:mg "NoNumber" = some (.ref c4))(m5:mg "NoStand" = some (.ref c5))(m6:mg "NotSquare" = some (.ref c6))(m7:mg "NoCounts" = some (.ref c7))(m8:mg "NoHits" = some (.ref c8))(m9:mg "NoStairs" = some (.ref c9))(m10:mg "NotAlike" = some (.ref c10))(m11:mg "NoText" = some (.ref c11))(m12:mg "NoLines" = some (.ref c12))(m13:mg "TooFew" = some (.ref c13))(m14:mg "NoCell" = some (.ref c14))(m15:mg "NoParting" = some (.ref c15))(m16:mg "NoPlace" = some (.ref c16))(m17:mg "Double" = some (.ref c17))(m18:mg "NoDeed" = some (.ref c18))(m19:mg "NoRow" = some (.ref c19)) :
  Rx.FnM P w K mg base 1 f fd ["_law_e"] (Qeg K [c1,c2,c3,c4,c5,c6,c7,c8,c9,c10,c11,c12,c13,c14,c15,c16,c17,c18,c19]):=by
 refine Rx.okM F QcN (λvs H Q E h=>?_) (λcdv A outer s H vs Q E hr h=>?_)
 ·obtain⟨a,C,bs,j,wd,rfl,_⟩:=h;rfl
 ·obtain⟨a,C,bs,j,wd,rfl,ha,hc,pb,eV,hcnt,hj,hm,hw,k⟩:=h;refine' ⟨_,Zr (YR (i:=1) QcN.nd rfl (Q0 rfl) (Qag (QdH (x := "_law_e") (ns:=["NoOrder", "NoSize", "TooMany", "NoNumber"]) (cs:=[c1,c2,c3,c4]) rfl (Q0 rfl) (by decide) (by decide) (by rfl) T.isinstance (by decide +kernel) (by rfl) (.cons m1 (.cons m2 (.cons m3 (.cons m4 .nil))))))) ?p1,?rd⟩
  case p1=>
   show PSs _ _ _;refine' Zr (YR (i:=1) QcN.nd rfl (Q0 rfl) (Yr QcV (pv 1) (Qag (QdH (x := "_law_e") (ns:=["NoStand", "NotSquare", "NoCounts", "NoHits"]) (cs:=[c5,c6,c7,c8]) rfl (Q0 rfl) (by decide) (by decide) (by rfl) T.isinstance (by decide +kernel) (by rfl) (.cons m5 (.cons m6 (.cons m7 (.cons m8 .nil)))))))) ?_
   show PSs _ _ _;refine' Zr (YR (i:=1) QcN.nd rfl (Q0 rfl) (Yr QcV (pv 1) (Qag (QdH (x := "_law_e") (ns:=["NoStairs", "NotAlike", "NoText", "NoLines"]) (cs:=[c9,c10,c11,c12]) rfl (Q0 rfl) (by decide) (by decide) (by rfl) T.isinstance (by decide +kernel) (by rfl) (.cons m9 (.cons m10 (.cons m11 (.cons m12 .nil)))))))) ?_
   show PSs _ _ _;refine' Zr (YR (i:=1) QcN.nd rfl (Q0 rfl) (Yr QcV (pv 1) (Qag (QdH (x := "_law_e") (ns:=["TooFew", "NoCell", "NoParting", "NoPlace"]) (cs:=[c13,c14,c15,c16]) rfl (Q0 rfl) (by decide) (by decide) (by rfl) T.isinstance (by decide +kernel) (by rfl) (.cons m13 (.cons m14 (.cons m15 (.cons m16 .nil)))))))) ?_
   show PSs _ _ _;refine' Zr (YR (i:=1) QcN.nd rfl (Q0 rfl) (Yr QcV (pv 1) (Qag (QdH (x := "_law_e") (ns:=["Double", "NoDeed", "NoRow"]) (cs:=[c17,c18,c19]) rfl (Q0 rfl) (by decide) (by decide) (by rfl) T.isinstance (by decide +kernel) (by rfl) (.cons m17 (.cons m18 (.cons m19 .nil))))))) ?_
   show PSs _ _ _;refine' Zr (Ql2 (QsB (Qem Qs8 (QsM PySem.F.plainAttrs_list PySem.F.slot_list_count PySem.F.type_list_count Rx.QmS (pv 1) (Ys Qpe Zu)) ZX (Zv _)) (QnM (QnO (QnN (Qah Rx.Qfy (by rfl) T.isinstance Qal (Ys (pv 0) (Ys (Qjz (v:=.ty "ValueError") (by rfl) mV Qv4 rfl) Zu))))))).pt (Qaf (QaW QgW)) Qen) ?_
   show PSs _ _ _;refine' Zr ?a1 ?_
   case a1=>
    refine' YR (i:=2) (hs:=?hh) (hf:=?hf) ?hN ?hi ?hx ?he
    case hN=>exact QcN.nd
    case hi=>exact rfl
    case hx=>exact Q0 rfl
    case hf=>exact Q0 rfl
    case hh=>kernel_rfl
    case he=>
     refine' Qag ?ww
     case ww=>exact QjH (ws:=QiK) (by kernel_rfl)
   show PSs _ _ _;exact Qaf (QaW (QhM Qb5 (Yr QcV (pv 2) (Yr QpA (Qag (Qcq QgW Zu)) ZX)) (QsM PySem.F.plainAttrs_list PySem.F.slot_list_index PySem.F.type_list_index Rx.QmR (pv 1) (Ys Qpe Zu)) (λ_ _=>rfl)))
  obtain⟨b1,bs1,rfl,q1,pb1⟩:=Jr pb;obtain⟨b2,bs2,rfl,q2,pb2⟩:=Jr pb1;obtain⟨b3,bs3,rfl,q3,pb3⟩:=Jr pb2;obtain⟨b4,bs4,rfl,q4,pb4⟩:=Jr pb3;obtain⟨b5,bs5,rfl,q5,pb5⟩:=Jr pb4;obtain⟨b6,bs6,rfl,q6,pb6⟩:=Jr pb5;obtain⟨b7,bs7,rfl,q7,pb7⟩:=Jr pb6;obtain⟨b8,bs8,rfl,q8,pb8⟩:=Jr pb7;obtain⟨b9,bs9,rfl,q9,pb9⟩:=Jr pb8;obtain⟨b10,bs10,rfl,q10,pb10⟩:=Jr pb9;obtain⟨b11,bs11,rfl,q11,pb11⟩:=Jr pb10;obtain⟨b12,bs12,rfl,q12,pb12⟩:=Jr pb11;obtain⟨b13,bs13,rfl,q13,pb13⟩:=Jr pb12;obtain⟨b14,bs14,rfl,q14,pb14⟩:=Jr pb13;obtain⟨b15,bs15,rfl,q15,pb15⟩:=Jr pb14;obtain⟨b16,bs16,rfl,q16,pb16⟩:=Jr pb15;obtain⟨b17,bs17,rfl,q17,pb17⟩:=Jr pb16;obtain⟨b18,bs18,rfl,q18,pb18⟩:=Jr pb17;obtain⟨b19,bs19,rfl,q19,pb19⟩:=Jr pb18;cases QhN pb19;refine⟨a,C,[b1,b2,b3,b4],rfl,ha,hc,(.cons q1 (.cons q2 (.cons q3 (.cons q4 .nil)))),by show 4<=1000;decide,λl1 H1 s1 n1 e_1=>?_⟩;have h1:=s1 _ _ ha;refine⟨_,rfl,a,C,[b5,b6,b7,b8],rfl,h1,hc,(.cons q5 (.cons q6 (.cons q7 (.cons q8 .nil)))),by show 4<=1000;decide,λl2 H2 s2 n2 e_2=>⟨l1,l2,_,_,rfl,rfl,s2 _ _ e_1,e_2,by show 8<=1000;decide,λl3 H3 s3 n3 e_3=>?_⟩⟩;have h3:=s3 _ _ (s2 _ _ h1);refine⟨_,rfl,a,C,[b9,b10,b11,b12],rfl,h3,hc,(.cons q9 (.cons q10 (.cons q11 (.cons q12 .nil)))),by show 4<=1000;decide,λl4 H4 s4 n4 e_4=>⟨l3,l4,_,_,rfl,rfl,s4 _ _ e_3,e_4,by show 12<=1000;decide,λl5 H5 s5 n5 e_5=>?_⟩⟩;have h5:=s5 _ _ (s4 _ _ h3);refine⟨_,rfl,a,C,[b13,b14,b15,b16],rfl,h5,hc,(.cons q13 (.cons q14 (.cons q15 (.cons q16 .nil)))),by show 4<=1000;decide,λl6 H6 s6 n6 e_6=>⟨l5,l6,_,_,rfl,rfl,s6 _ _ e_5,e_6,by show 16<=1000;decide,λl7 H7 s7 n7 e_7=>?_⟩⟩;have h7:=s7 _ _ (s6 _ _ h5);refine⟨_,rfl,a,C,[b17,b18,b19],rfl,h7,hc,(.cons q17 (.cons q18 (.cons q19 .nil))),by show 3<=1000;decide,λl8 H8 s8 n8 e_8=>⟨l7,l8,_,_,rfl,rfl,s8 _ _ e_7,e_8,by show 19<=1000;decide,λl9 H9 s9 n9 e_9=>?_⟩⟩;have h9:=s9 _ _ (s8 _ _ h7);have S:=((((((((s1.trans s2).trans s3).trans s4).trans s5).trans s6).trans s7).trans s8).trans s9);have EL:H9 l9=some (.lst (([b1,b2,b3,b4,b5,b6,b7,b8,b9,b10,b11,b12,b13,b14,b15,b16,b17,b18,b19]:List Bool).map V.bl)):=e_9;refine⟨_,rfl,.inl ⟨rfl,_,SqL.of EL⟩,l9,_,rfl,rfl,EL,rfl,_,rfl,?_⟩;rw[hcnt];refine QvS rfl ?_
  refine⟨_,rfl,a,C,.ty "ValueError",.type "ValueError",true,rfl,h9,hc,(λu r=>r),eV,_,rfl,?_⟩;refine⟨by show 10<=1000;decide,λl10 H10 s10 n10 e_10=>?_⟩;refine⟨_,rfl,by show 1<=1000;decide,λl11 H11 s11 n11 e_11=>⟨l11,_,_,rfl,rfl,e_11,by decide,by decide,by decide,λl12 H12 s12 n12 e_12=>⟨l10,l12,_,_,rfl,rfl,s12 _ _ (s11 _ _ e_10),e_12,by show 10+_<=1000;decide,λl13 H13 s13 n13 e_13=>?_⟩⟩⟩;have EL2:=s13 _ _ (s12 _ _ (s11 _ _ (s10 _ _ EL)));refine⟨_,rfl,.inl ⟨rfl,_,SqL.of EL2⟩,l9,_,j,rfl,rfl,EL2,hj,hm,?_⟩;have EW:H13 l13=some (.lst (QfT.map V.str)):=e_13;exact⟨l13,_,_,.str wd,rfl,rfl,SqL.of EW,Zw (by rw[Qz,hw];rfl),k H13 ((((S.trans s10).trans s11).trans s12).trans s13)⟩
end
end Rk
namespace Rk
open L2 _root_.Rd
open Dl
open Rt
def Quz:PyData->List Int
 |.tuple ds=>ds.map toI
 |_=>[]
theorem QcW(ns:List Int):Quz (tI ns)=ns:=Qcv ns
def JO(w:Nat)(a t:PyData):Str:=if J5 a=true then(if w=3 then(if QnE (Quz a) t=true then "told" else "stand") else if 20<(Quz a).sum then "many" else if w=2 then(if inW t 0 8=true then "told" else "number") else(if inW t 0 (((Quz a).length:Nat):Int)=true then "told" else "size")) else "stairs"
def QfV:DF:=λargs R _=>∃(w:Nat)(a t:PyData),args=[.v (.int (w:Int)),.v a,.v t]/\w<4/\QcJ t/\R (.str (JO w a t))
theorem QiQ{w:Nat}{a t:PyData}(h:J5 a=false):JO w a t = "stairs" := by
 unfold JO;rw[if_neg (by rw[h];exact Qr)]
theorem QbO{w:Nat}{ns:List Int}{t:PyData}(hs:Stairs ns)(h3:w≠3)(h:20<ns.sum):JO w (tI ns) t = "many" := by
 unfold JO;rw[if_pos (YO hs),if_neg h3,QcW,if_pos h]
theorem QbN{w:Nat}{ns:List Int}{t:PyData}(hs:Stairs ns)(h2:w<2)(h:ns.sum<=20)(hz:inW t 0 ((ns.length:Nat):Int)=false):JO w (tI ns) t = "size" := by
 unfold JO;rw[if_pos (YO hs),if_neg (by omega),QcW,if_neg (by omega),if_neg (by omega),if_neg (by rw[hz];exact Qr)]
theorem QhA{w:Nat}{ns:List Int}{t:PyData}(hs:Stairs ns)(h2:w<2)(h:ns.sum<=20)(hz:inW t 0 ((ns.length:Nat):Int)=true):JO w (tI ns) t = "told" := by
 unfold JO;rw[if_pos (YO hs),if_neg (by omega),QcW,if_neg (by omega),if_neg (by omega),if_pos hz]
theorem QiS{ns:List Int}{t:PyData}(hs:Stairs ns)(h:ns.sum<=20)(hz:inW t 0 8=false):JO 2 (tI ns) t = "number" := by
 unfold JO;rw[if_pos (YO hs),if_neg (by decide),QcW,if_neg (by omega),if_pos rfl,if_neg (by rw[hz];exact Qr)]
theorem QiR{ns:List Int}{t:PyData}(hs:Stairs ns)(h:ns.sum<=20)(hz:inW t 0 8=true):JO 2 (tI ns) t = "told" := by
 unfold JO;rw[if_pos (YO hs),if_neg (by decide),QcW,if_neg (by omega),if_pos rfl,if_pos hz]
theorem Qed{ns:List Int}{t:PyData}(hs:Stairs ns)(hz:QnE ns t=false):JO 3 (tI ns) t = "stand" := by
 unfold JO;rw[if_pos (YO hs),if_pos rfl,QcW,if_neg (by rw[hz];exact Qr)]
theorem Qsa{ns:List Int}{t:PyData}(hs:Stairs ns)(hz:QnE ns t=true):JO 3 (tI ns) t = "told" := by
 unfold JO;rw[if_pos (YO hs),if_pos rfl,QcW,if_pos hz]
section
variable{P:QD}{w:Je}{K:PySem.W.Frag}{mg:Str->Option Value}{base:JM}
theorem Qjb:Jg ["_law_way", "_law_stairs_here", "_law_thing", "_law_e"] ["_law_way", "_law_stairs_here", "_law_thing"] (Qk QhW):=⟨rfl,rfl,rfl,by decide +kernel,rfl,by decide +kernel,by decide +kernel⟩
theorem QpI{f f1 f2 f3 f4  : Addr}{fd fd1 fd2 fd3 fd4:Qy}{tP CS CM CZ CO CN:Addr}(F:Fun K "_law_told" "_law_told" QhW f fd)(T:GlbA mg)
  (m1:mg "by_weight" = some (.ref f1))(G1:FnOk P w K mg base (Rx.CXE P w) 6 f1 fd1 ["stairs", "size"] (JF true (QuC CS CM CZ)))(b1:Binds K fd1 ["stairs", "size"] [])(k1:PySem.W.keepIn K (.ref f1)=true)
  (m2:mg "lightest" = some (.ref f2))(G2:FnOk P w K mg base (Rx.CXE P w) 6 f2 fd2 ["stairs", "size"] (spT tP Qm4 (JF false (Qg1 CS CM CZ))))(b2:Binds K fd2 ["stairs", "size"] [])(k2:PySem.W.keepIn K (.ref f2)=true)
  (m3:mg "ones_product" = some (.ref f3))(G3:FnOk P w K mg base (Rx.CXE P w) 6 f3 fd3 ["stairs", "number"] (JF true (QmA CS CM CO)))(b3:Binds K fd3 ["stairs", "number"] [])(k3:PySem.W.keepIn K (.ref f3)=true)
  (m4:mg "left_cells" = some (.ref f4))(G4:FnOk P w K mg base (Rx.CXE P w) 7 f4 fd4 ["stairs", "stand"] (JF false (Qm0 CS CN)))(b4:Binds K fd4 ["stairs", "stand"] [])(k4:PySem.W.keepIn K (.ref f4)=true)
  {fK R:Addr} {cs:List Addr} {fdK:Qy} (mK:mg "_law_kind_of" = some (.ref fK)) (GK:Rx.FnM P w K mg base 1 fK fdK ["_law_e"] (Qeg K cs)) (bK:Binds K fdK ["_law_e"] []) (kK:PySem.W.keepIn K (.ref fK)=true) (mR:mg "RookError" = some (.ref R)) (oS:KOk2 K cs R CS "stairs") (oM:KOk2 K cs R CM "many") (oZ:KOk2 K cs R CZ "size") (oO:KOk2 K cs R CO "number") (oN:KOk2 K cs R CN "stand") :
  FnOk P w K mg base CX0 8 f fd ["_law_way", "_law_stairs_here", "_law_thing"] (spT tP Qm4 (JF false QfV)):=by
 refine QvJ false F Qjb (λargs R EX h=>?_) (λcdv A outer s H E hr hT=>?_)
 ·obtain⟨w,a,t,rfl,_⟩:=h;rfl
 ·have hU:=Room.u60 hr;have hI:=Room.i60 hr;refine⟨_,QP (Qsw (i:=3) (ks:=λC wd=>KOk2 K cs R C wd) (Qoz (QoA (Qlv hT (Qey f1 (QuC CS CM CZ) (by rfl) m1 (Qey f2 (Qg1 CS CM CZ) (by rfl) m2 (Qey f3 (QmA CS CM CO) (by rfl) m3 (Qey f4 (Qm0 CS CN) (by rfl) m4 QtG)))) (Jt ⟨_,_,_,(FnOk.toT G1.nofr),hr.mono (by decide),k1,b1⟩ (Jt ⟨_,_,_,G2,hr.mono (by decide),k2,b2⟩ (Jt ⟨_,_,_,(FnOk.toT G3.nofr),hr.mono (by decide),k3,b3⟩ (Jt ⟨_,_,_,(FnOk.toT G4),hr.mono (by decide),k4,b4⟩ QdV)))) (qp 0) (Zb (qv 1) (Zb (qv 2) Jn))))) Qjb.nd mR (QoV GK (hr.mono (by decide)) mK kK bK) (λo=>Qm9 o))
   (Q6 (ZJ Y5)),λargs R EX h=>?_⟩
  obtain⟨w,a,t,rfl,w4,sh,hR⟩:=h;obtain rfl | rfl | rfl | rfl:w=0∨w=1∨w=2∨w=3:=by omega
  ·refine⟨_,Zw (j:=0) rfl,a,t,rfl,λha=>⟨"stairs",oS,by decide +kernel,?_⟩,λns ea hs=>⟨λh20=>⟨"many",oM,by decide +kernel,?_⟩,λh20=>⟨λhz=>⟨"size",oZ,by decide +kernel,?_⟩,λk ek hk=>?_⟩⟩⟩
   ·rw[QiQ ha] at hR;exact hR
   ·subst ea;rw[QbO hs (by decide) h20] at hR;exact hR
   ·subst ea;rw[QbN hs (by decide) h20 hz] at hR;exact hR
   ·subst ea ek;rw[QhA hs (by decide) h20 (Qdm (by omega) (by omega))] at hR;exact⟨rfl,hR⟩
  ·refine⟨_,Zw (j:=1) rfl,a,t,rfl,λha=>⟨"stairs",oS,by decide +kernel,?_⟩,λns ea hs=>⟨λh20=>⟨"many",oM,by decide +kernel,?_⟩,λh20=>⟨λhz=>⟨"size",oZ,by decide +kernel,?_⟩,λk ek hk=>?_⟩⟩⟩
   ·rw[QiQ ha] at hR;exact hR
   ·subst ea;rw[QbO hs (by decide) h20] at hR;exact hR
   ·subst ea;rw[QbN hs (by decide) h20 hz] at hR;exact hR
   ·subst ea ek;rw[QhA hs (by decide) h20 (Qdm (by omega) (by omega))] at hR;exact⟨rfl,hR⟩
  ·refine⟨_,Zw (j:=2) rfl,a,t,rfl,λha=>⟨"stairs",oS,by decide +kernel,?_⟩,λns ea hs=>⟨λh20=>⟨"many",oM,by decide +kernel,?_⟩,λh20=>⟨λhz=>⟨"number",oO,by decide +kernel,?_⟩,λm ek m0 m8=>?_⟩⟩⟩
   ·rw[QiQ ha] at hR;exact hR
   ·subst ea;rw[QbO hs (by decide) h20] at hR;exact hR
   ·subst ea;rw[QiS hs h20 hz] at hR;exact hR
   ·subst ea ek;rw[QiR hs h20 (Qdm m0 m8)] at hR;exact⟨rfl,hR⟩
  ·refine⟨_,Zw (j:=3) rfl,a,t,rfl,sh,λha=>⟨"stairs",oS,by decide +kernel,?_⟩,λns ea hs hz=>⟨"stand",oN,by decide +kernel,?_⟩,λns L ea hs ed hz=>?_⟩
   ·rw[QiQ ha] at hR;exact hR
   ·subst ea;rw[Qed hs hz] at hR;exact hR
   ·subst ea;rw[Qsa hs hz] at hR;exact⟨rfl,hR⟩
end
def Qge:DF:=λargs R _=>∃ns,args=[.pot,.v (tI ns)]/\Stairs ns/\∀d,J5 d=false->R d
section
variable{P:QD}{w:Je}{K:PySem.W.Frag}{mg:Str->Option Value}{base:JM}
theorem Qcx:Jg ["_law_pot_here", "_law_stairs_here", "_law_spot", "_law_odd", "_law_some"] ["_law_pot_here", "_law_stairs_here"] (Qk QhY):=⟨rfl,rfl,rfl,by decide +kernel,rfl,by decide +kernel,by decide +kernel⟩
theorem QmG{f f1  : Addr}{fd fd1:Qy}(F:Fun K "_law_none" "_law_none" QhY f fd)(T:GlbA mg)
  (m1:mg "_law_take" = some (.ref f1))(G1:FnOk P w K mg base CX0 1 f1 fd1 ["_law_pot_here", "_law_far"] (JF true QiV))(b1:Binds K fd1 ["_law_pot_here", "_law_far"] [])(k1:PySem.W.keepIn K (.ref f1)=true) :
  FnOk P w K mg base CX0 2 f fd ["_law_pot_here", "_law_stairs_here"] (JF false Qge):=by
 refine okQ false F Qcx (λargs R EX h=>?_) (λcdv A outer s H E hr=>?_)
 ·obtain⟨ns,rfl,_⟩:=h;rfl
 ·have hU:=Room.u60 hr;have hI:=Room.i60 hr;refine⟨_,QP (Yd 2 (JP (Z5 G1 (hr.mono (by decide)) (by rfl) m1 k1 b1 Zh (Y4 0 (Zb (JP (JT ZF Qaq (by rfl) T.len YE (Qax (qp 1) Q3))) Jn)))) Qcx.nd)
   (QP (Yd 3 (QdF Z9 Y8 (QK (Y6 (JZ QR (JZ (JP (QlU (Jf QR))) (JZ Qjs (JZ QoW (JZ Y5 (JZ (JP (YL (JZ QR Q3))) (JZ (JP (ZT QgY Qtn (Jf QR) (Jf QR))) Q3))))))))) (QK (Z5 G1 (hr.mono (by decide)) (by rfl) m1 k1 b1 Zh (Y4 0 (Zb QR Jn)))) (λ_ _=>rfl)) Qcx.nd)
   (QP (Yd 4 (JP (Y6 (JZ (JP (ZT Z0 Yx (QK (ZT Z0 Yx (QK (QcT (qp 1) QcR (QcQ (qp 2)))) (QK (YL (JZ (qv 3) Q3))))) (QK (QcT (qp 1) (QcQ (QK (ZT Z0 Yx (qp 2) (Jf QR)))) QcR)))) (JZ (JP (Qcz QeH Qrx (by rfl) T.list QrA (Qax (qp 1) Q3))) (JZ QoW (JZ (JP (YL Q3)) (JZ (JP (YL (JZ QR (JZ QR Q3)))) (JZ (JP (ZT QjI QjX (QK (YL (JZ QR Q3))) (Jf QR))) (JZ QR (JZ Y5 (JZ Qvv Q3))))))))))) Qcx.nd)
   (Q6 (ZJ (QdF Z9 Y8 (qp 4) (QK (Z5 G1 (hr.mono (by decide)) (by rfl) m1 k1 b1 Zh (Y4 0 (Zb QR Jn)))) (λ_ _=>rfl)))))),λargs R EX h=>?_⟩
  obtain⟨ns,rfl,hs,hR⟩:=h;have l1:=hs.l1;have l6:=hs.l6;have ln:(ns.map Qe).length=ns.length:=Qg _;refine⟨_,rfl,by omega,by omega,λp p0 p1=>?_⟩;refine⟨by unfold Qwb;decide,?_⟩;refine⟨_,rfl,by decide,by decide,λr r0 r1=>Qkg r0 r1 λod hod=>?_⟩;have bad:inW od 0 6=false:=Jt (p:=λd=>inW d 0 6=false) rfl (Jt rfl (Jt rfl (Jt rfl (Jt rfl (Jt rfl (Jt (by decide +kernel) QdV)))))) od hod;have c1:=Qc7 (ns.map Qe) none (some p);have c2:=Qc7 (ns.map Qe) (some (p+1)) none;refine⟨by show _+1<=_;omega,by rw[QF];show _+1+_<=_;omega,?_⟩;refine⟨⟨by decide,by decide,by decide,by decide⟩,_,rfl,by decide,by decide,λr3 r30 r31=>Qkg r30 r31 λd hd=>hR d ?_⟩;have f1:J5 (.tuple (Dl.cutD (ns.map Qe) none (some p)++[od]++Dl.cutD (ns.map Qe) (some (p+1)) none))=false:=by
   have al:(Dl.cutD (ns.map Qe) none (some p)++[od]++Dl.cutD (ns.map Qe) (some (p+1)) none).all (λd=>inW d 0 6)=false:=List.all_eq_false.mpr ⟨od,by simp,by rw[bad];exact Qr⟩;generalize Dl.cutD (ns.map Qe) none (some p)++[od]++Dl.cutD (ns.map Qe) (some (p+1)) none=L at al;show((decide ((1:Int)<=L.length)&&decide ((L.length:Int)<=6))&&(L.all (λd=>inW d 0 6)&&nfI (L.map toI)))=false;rw[al,QfO,Qr2]
  exact Jt (p:=λd=>J5 d=false) f1 (Jt rfl (Jt rfl (Jt rfl (Jt (by decide +kernel) (Jt (by decide +kernel) (Jt rfl (Jt rfl (Jt rfl QdV)))))))) d hd
end
def Qeu:DF:=λargs R _=>∃n:Int,args=[.pot,.v (.int n),.v (.int 3)]/\1<=n/\n<=6/\∀ns,Stairs ns->(∀x∈ns,x<=3)->R (tI ns)
def BadT(d:PyData):Prop:=(∀n:Nat,n<=6->inW d 0 ((n:Nat):Int)=false)/\inW d 0 8=false/\(∀ns,QnE ns d=false)/\QcJ d
theorem Qg4{i b:Int}(h:b<i):inW (.int i) 0 b=false:=by
 show(decide ((0:Int)<=i)&&decide (i<=b))=false;rw[decide_eq_false (show ¬i<=b by omega),Qr2]
theorem Qk5{i:Int}(h:9<=i):BadT (.int i):=⟨λn hn=>Qg4 (by omega),Qg4 (by omega),λns=>rfl,λds e=>nomatch e⟩
theorem Qbn{ns:List Int}(h:J5 (tI ns)=true):Stairs ns:=by
 obtain⟨ms,e,hs⟩:=Qef h;rw[QiX e];exact hs
theorem Qwe:∀{ns:List Int},(∀x∈ns,x<=3)->ns.sum<=3*(ns.length:Int)
 |[],_=>by simp
 |x::ns,h=>by
  have h1:=h x (.head _);have h2:=Qwe (ns:=ns) λy hy=>h y (.tail _ hy)
  rw[QaJ,Q4];omega
theorem QvM(g:PyData->PyData):(Qiv 0 ((4:Int)).toNat).map g=[g (.int 0),g (.int 1),g (.int 2),g (.int 3)]:=rfl
theorem Qwu(g:PyData->PyData):(Qiv 0 ((3:Int)).toNat).map g=[g (.int 0),g (.int 1),g (.int 2)]:=rfl
theorem Qxe(g:PyData->PyData):(Qiv 0 ((2:Int)).toNat).map g=[g (.int 0),g (.int 1)]:=rfl
section
variable{P:QD}{w:Je}{K:PySem.W.Frag}{mg:Str->Option Value}{base:JM}
theorem Z6:Jg ["_law_pot_here", "_law_columns", "_law_most", "_law_found", "_law_least", "_law_column", "_law_step"] ["_law_pot_here", "_law_columns", "_law_most"] (Qk Qb3):=⟨rfl,rfl,rfl,by decide +kernel,rfl,by decide +kernel,by decide +kernel⟩
theorem QhP{f f1  : Addr}{fd fd1:Qy}(F:Fun K "_law_stairs" "_law_stairs" Qb3 f fd)(T:GlbA mg)
  (m1:mg "_law_take" = some (.ref f1))(G1:FnOk P w K mg base CX0 1 f1 fd1 ["_law_pot_here", "_law_far"] (JF true QiV))(b1:Binds K fd1 ["_law_pot_here", "_law_far"] [])(k1:PySem.W.keepIn K (.ref f1)=true) :
  FnOk P w K mg base CX0 2 f fd ["_law_pot_here", "_law_columns", "_law_most"] (JF false Qeu):=by
 refine okQ false F Z6 (λargs R EX h=>?_) (λcdv A outer s H E hr=>?_)
 ·obtain⟨n,rfl,_⟩:=h;rfl
 ·have hU:=Room.u60 hr;have hI:=Room.i60 hr;refine⟨_,QP (Yd 3 (JP (YL Q3)) Z6.nd)
   (QP (Yd 4 QR Z6.nd)
   (QP (QcP Zs rfl (YV (by rfl) T.range (qp 1)) (Zm 5 Z6.nd rfl (by first | exact Q0 rfl | exact Q8 rfl))
    (QP (Yd 6 (JP (Z5 G1 (hr.mono (by decide)) (by rfl) m1 k1 b1 Zh (Y4 0 (Zb QR Jn)))) Z6.nd)
   (QP (QaQ (Y3 Qci (Qfd hU) (QK (Z5 G1 (hr.mono (by decide)) (by rfl) m1 k1 b1 Zh (Y4 0 (Zb QR Jn)))) (Jf QR) (Zv _)) (Q6 (Yd 6 (JP (Z5 G1 (hr.mono (by decide)) (by rfl) m1 k1 b1 Zh (Y4 0 (Zb (JP (ZT Z0 Yx (qp 2) (Jf QR))) Jn)))) Z6.nd)) ZZ)
   (QP (Yd 4 (JP (JT (Qfv rfl) Qni (by rfl) T.min Qk0 (Qax (qp 2) (Qax (QK (ZT Z0 Yx (qp 4) (QK (ZT YW QaX (qp 6) (QK (Qcz QkW Qt2 (by rfl) T.int Qob (Qax (Jf (Qwr (QK (QbW Qtd Qbu (qp 5) (Jf QR) (Zv _))) (Qco (JP (QbW Qci (Qfd hU) (QK (Z5 G1 (hr.mono (by decide)) (by rfl) m1 k1 b1 Zh (Y4 0 (Zb QR Jn)))) (Jf QR) (Zv _)))))) Q3))))))) Q3)))) Z6.nd)
   (Q6 (Yd 3 (JP (ZT Z0 Yx (qp 3) (QK (YL (JZ (qv 4) Q3))))) Z6.nd))))))
   (Q6 (ZJ (qv 3))))),λargs R EX h=>?_⟩
  obtain⟨n,rfl,n1,n6,hR⟩:=h;refine⟨⟨by omega,by omega⟩,Qgj (λi δ=>∃ns x4 x5 x6,δ=[.pot,.v (.int n),.v (.int 3),.v (tI ns),.v (.int x4),x5,x6]/\ns.length=i/\(∀j∈ns,0<=j/\j<=3)/\nfI ns=true/\0<=x4/\x4<=3/\∀b,ns.getLast? = some b->b<=x4) ⟨[],0,_,_,rfl,rfl,λj hj=>(nomatch hj),rfl,by decide,by decide,λb hb=>(nomatch hb)⟩ ?_ ?_⟩
  ·rintro i δ hi ⟨ns,x4,x5,x6,rfl,hl,hb,hn,h0,h6,hlast⟩;refine⟨_,rfl,by decide,by decide,λr1 r10 r11=>⟨_,rfl,by decide,by decide,λr2 r20 r21=>?_⟩⟩;refine ifC (λzz=>?_) λzz=>?_
   ·refine⟨_,rfl,by decide,by decide,λr3 r30 r31=>?_⟩;have fin:∀v:Int,x4<=v->v<=3->∃ns' x4' x5' x6',[Sl.pot,.v (.int n),.v (.int 3),.v (.tuple (ns.map Qe++[.int v])),.v (.int v),.v (.int (0+(i:Int))),.v (.int r3)]=[.pot,.v (.int n),.v (.int 3),.v (tI ns'),.v (.int x4'),x5',x6']/\ns'.length=i+1/\(∀j∈ns',0<=j/\j<=3)/\nfI ns'=true/\0<=x4'/\x4'<=3/\∀b,ns'.getLast? = some b->b<=x4':=λv v0 v6=>by
     refine⟨ns++[v],v,_,_,by rw[tI,ZC];rfl,by rw[QF,hl];rfl,λj hj=>?_,Qgf hn λb hb'=>Qdq (hlast b hb') v0,by omega,v6,λb hb'=>?_⟩
     ·rcases JY.mp hj with z | z
      ·exact hb j z
      ·rw[QY.mp z];omega
     ·rw[QbH] at hb';have:v=b:=by simpa using hb'
      omega
    have fin2:∀t:Int,0<=t->∃v,(if x4+t<3 then x4+t else 3)=v/\x4<=v/\v<=3:=λt t0=>⟨_,rfl,by split<;>omega,by split<;>omega⟩
    refine ifC (λz=>?_) λz=>?_
    ·refine⟨.inl (.inr (by decide)),?_⟩;obtain⟨v,ev,v0,v6⟩:=fin2 (r3*1) (by omega);refine Qet ev ⟨by rw[Qg];show _+1<=_;omega,fin v v0 v6⟩
    ·refine⟨_,rfl,by decide,by decide,λrb rb0 rb1=>?_⟩;refine⟨.inl (.inr (by show -(2^64:Int)<(if decide (rb=0)=true then 1 else 0)/\(if decide (rb=0)=true then(1:Int) else 0)<2^64;split<;>decide)),?_⟩;obtain⟨v,ev,v0,v6⟩:=fin2 (r3*(if decide (rb=0)=true then 1 else 0)) (by split<;>omega);refine Qet ev ⟨by rw[Qg];show _+1<=_;omega,fin v v0 v6⟩
   ·skip
    have fin:∀v:Int,x4<=v->v<=3->∃ns' x4' x5' x6',[Sl.pot,.v (.int n),.v (.int 3),.v (.tuple (ns.map Qe++[.int v])),.v (.int v),.v (.int (0+(i:Int))),.v (.int r1)]=[.pot,.v (.int n),.v (.int 3),.v (tI ns'),.v (.int x4'),x5',x6']/\ns'.length=i+1/\(∀j∈ns',0<=j/\j<=3)/\nfI ns'=true/\0<=x4'/\x4'<=3/\∀b,ns'.getLast? = some b->b<=x4':=λv v0 v6=>by
     refine⟨ns++[v],v,_,_,by rw[tI,ZC];rfl,by rw[QF,hl];rfl,λj hj=>?_,Qgf hn λb hb'=>Qdq (hlast b hb') v0,by omega,v6,λb hb'=>?_⟩
     ·rcases JY.mp hj with z | z
      ·exact hb j z
      ·rw[QY.mp z];omega
     ·rw[QbH] at hb';have:v=b:=by simpa using hb'
      omega
    have fin2:∀t:Int,0<=t->∃v,(if x4+t<3 then x4+t else 3)=v/\x4<=v/\v<=3:=λt t0=>⟨_,rfl,by split<;>omega,by split<;>omega⟩
    refine ifC (λz=>?_) λz=>?_
    ·refine⟨.inl (.inr (by decide)),?_⟩;obtain⟨v,ev,v0,v6⟩:=fin2 (r1*1) (by omega);refine Qet ev ⟨by rw[Qg];show _+1<=_;omega,fin v v0 v6⟩
    ·refine⟨_,rfl,by decide,by decide,λrb rb0 rb1=>?_⟩;refine⟨.inl (.inr (by show -(2^64:Int)<(if decide (rb=0)=true then 1 else 0)/\(if decide (rb=0)=true then(1:Int) else 0)<2^64;split<;>decide)),?_⟩;obtain⟨v,ev,v0,v6⟩:=fin2 (r1*(if decide (rb=0)=true then 1 else 0)) (by split<;>omega);refine Qet ev ⟨by rw[Qg];show _+1<=_;omega,fin v v0 v6⟩
  ·rintro δ ⟨ns,x4,x5,x6,rfl,hl,hb,hn,h0,h6,hlast⟩;exact hR ns ⟨by omega,by omega,λj hj=>⟨(hb j hj).1,by have:=(hb j hj).2;omega⟩,hn⟩ λx hx=>(hb x hx).2
theorem QpX:(["_law_way", "_law_bad", "_law_pot_here", "_law_stairs_here"]:List Str).Nodup:=by decide +kernel
theorem QpW:(["_law_way", "_law_bad", "_law_great"]:List Str).Nodup:=by decide +kernel
theorem QpV:(["_law_way", "_law_bad", "_law_stairs_here"]:List Str).Nodup:=by decide +kernel
theorem QpU:(["_law_way", "_law_stairs_here"]:List Str).Nodup:=by decide +kernel
theorem QpT:(["_law_way", "_law_few"]:List Str).Nodup:=by decide +kernel
theorem QpS:(["_law_way"]:List Str).Nodup:=by decide +kernel
theorem QcM:Jg ["_law_script", "_law_at", "_law_pot_here", "_law_stairs_here", "_law_bad", "_law_great", "_law_few"] ["_law_script"] (Qk sLaw):=⟨rfl,rfl,rfl,by decide +kernel,rfl,by decide +kernel,by decide +kernel⟩
theorem Qth{tP:Addr}{f f1 f2 f3 f4 f5 f6  : Addr}{fd fd1 fd2 fd3 fd4 fd5 fd6:Qy}(F:Fun K "law" "law" sLaw f fd)(T:GlbA mg)
  (m1:mg "_law_cell_at" = some (.ref f1))(G1:FnOk P w K mg base CX0 1 f1 fd1 ["_law_script", "_law_k"] (Qbp K))(b1:Binds K fd1 ["_law_script", "_law_k"] [])(k1:PySem.W.keepIn K (.ref f1)=true)
  (m2:mg "_law_pot" = some (.ref f2))(G2:FnOk P w K mg base CX0 1 f2 fd2 ["_law_cell"] (JF true Qvx))(b2:Binds K fd2 ["_law_cell"] [])(k2:PySem.W.keepIn K (.ref f2)=true)
  (m3:mg "_law_take" = some (.ref f3))(G3:FnOk P w K mg base CX0 1 f3 fd3 ["_law_pot_here", "_law_far"] (JF true QiV))(b3:Binds K fd3 ["_law_pot_here", "_law_far"] [])(k3:PySem.W.keepIn K (.ref f3)=true)
  (m4:mg "_law_stairs" = some (.ref f4))(G4:FnOk P w K mg base CX0 2 f4 fd4 ["_law_pot_here", "_law_columns", "_law_most"] (JF false Qeu))(b4:Binds K fd4 ["_law_pot_here", "_law_columns", "_law_most"] [])(k4:PySem.W.keepIn K (.ref f4)=true)
  (m5:mg "_law_told" = some (.ref f5))(G5:FnOk P w K mg base CX0 8 f5 fd5 ["_law_way", "_law_stairs_here", "_law_thing"] (spT tP Qm4 (JF false QfV)))(b5:Binds K fd5 ["_law_way", "_law_stairs_here", "_law_thing"] [])(k5:PySem.W.keepIn K (.ref f5)=true)
  (m6:mg "_law_none" = some (.ref f6))(G6:FnOk P w K mg base CX0 2 f6 fd6 ["_law_pot_here", "_law_stairs_here"] (JF false Qge))(b6:Binds K fd6 ["_law_pot_here", "_law_stairs_here"] [])(k6:PySem.W.keepIn K (.ref f6)=true) :
  FnOk P w K mg base CX0 9 f fd ["_law_script"] (spT tP Qm4 (Qds K)):=by
 refine QvK F QcM (λcdv A outer s H E hr hT=>?_);have hU:=Room.u60 hr;have hI:=Room.i60 hr;refine⟨_,QP (QcP Zs rfl (YV (by rfl) T.range (QK (JT (Qfw rfl) QkS (by rfl) T.max Qoa (Qax (Jf QR) (Qax (QK (JT (Qfv rfl) QkR (by rfl) T.min Qk0 (Qax (QK (Qsz 0 (by rfl) T.len)) (Qax (Jf QR) Q3)))) Q3))))) (Zm 1 QcM.nd rfl (by first | exact Q0 rfl | exact Q8 rfl))
    (QP (QoT 2 (Z5 G2 (hr.mono (by decide)) (by rfl) m2 k2 b2 Zh (Zb (JP (QsA 0 G1 (hr.mono (by decide)) (by rfl) m1 k1 b1 (qp 1))) Jn)) QcM.nd)
   (QP (Yd 3 (J7 G4 (hr.mono (by decide)) (by rfl) m4 k4 b4 Zh (Y4 2 (Zb (JP (ZT Z0 Yx (Jf QR) (QK (Z5 G3 (hr.mono (by decide)) (by rfl) m3 k3 b3 Zh (Y4 2 (Zb QR Jn)))))) (Zb QR Jn)))) QcM.nd)
   (QP (Yd 4 (QdF Z9 Y8 (QK (Y6 (JZ (JP (QlU (Jf QR))) (JZ (JP (ZT Z0 Yx (QK (JT ZF Qaq (by rfl) T.len YE (Qax (qp 3) Q3))) (Jf QR))) (JZ Qjs (JZ QoW (JZ Y5 (JZ (JP (YL (JZ QR Q3))) (JZ (JP (Y6 (JZ QR Q3))) (JZ (JP (ZT QgY Qtn (Jf QR) (Jf QR))) Q3)))))))))) (QK (Z5 G3 (hr.mono (by decide)) (by rfl) m3 k3 b3 Zh (Y4 2 (Zb QR Jn)))) (λ_ _=>rfl)) QcM.nd)
   (QP (QaQ (Y3 QdI (QhQ hU) (QK (QbV hT ["_law_way", "_law_bad", "_law_pot_here", "_law_stairs_here"] [none,some 4,some 2,some 3] (YV (by rfl) T.range (Jf QR)) (λcl ex s3 H3 C hT=>⟨(Zm 0 QpX rfl (Q0 rfl) (Q8 rfl)),Zt,(Qa6 hT G5 (hr.mono (by decide)) (by rfl) m5 k5 b5 Zh (Zb (qv 0) (Zb (J7 G6 (hr.mono (by decide)) (by rfl) m6 k6 b6 Zh (Y4 2 (Zb (qv 3) Jn))) (Zb (qv 1) Jn))))⟩))) (QK (ZT YW QaX (QK (Y6 (JZ Y5 Q3))) (Jf QR))) (Zv _)) (Q6 (ZJ Qjs)) ZZ)
   (QP (Yd 5 (QdF Z9 Y8 (QK (Y6 (JZ (JP (YL (JZ QR (JZ QR (JZ QR (JZ QR Q3)))))) (JZ (JP (YL (JZ QR (JZ QR (JZ QR (JZ QR (JZ QR (JZ QR Q3)))))))) (JZ (JP (ZT QjI QjX (QK (YL (JZ QR Q3))) (Jf QR))) (JZ (JP (YL (JZ QR (JZ QR (JZ QR (JZ QR (JZ QR (JZ QR Q3)))))))) (JZ (JP (YL (JZ QR (JZ QR (JZ QR (JZ QR Q3)))))) Q3))))))) (QK (Z5 G3 (hr.mono (by decide)) (by rfl) m3 k3 b3 Zh (Y4 2 (Zb QR Jn)))) (λ_ _=>rfl)) QcM.nd)
   (QP (QaQ (Y3 QdI (QhQ hU) (QK (QbV hT ["_law_way", "_law_bad", "_law_great"] [none,some 4,some 5] (YV (by rfl) T.range (Jf QR)) (λcl ex s3 H3 C hT=>⟨(Zm 0 QpW rfl (Q0 rfl) (Q8 rfl)),Zt,(Qa6 hT G5 (hr.mono (by decide)) (by rfl) m5 k5 b5 Zh (Zb (qv 0) (Zb (qv 2) (Zb (qv 1) Jn))))⟩))) (QK (ZT Z0 Yx (QK (ZT YW QaX (QK (Y6 (JZ Y5 Q3))) (Jf QR))) (QK (Y6 (JZ Y5 Q3))))) (Zv _)) (Q6 (ZJ Qjs)) ZZ)
   (QP (QaQ (Y3 QdI (QhQ hU) (QK (QbV hT ["_law_way", "_law_bad", "_law_stairs_here"] [none,some 4,some 3] (YV (by rfl) T.range (Jf QR)) (λcl ex s3 H3 C hT=>⟨(Zm 0 QpV rfl (Q0 rfl) (Q8 rfl)),Zt,(Qa6 hT G5 (hr.mono (by decide)) (by rfl) m5 k5 b5 Zh (Zb (qv 0) (Zb (qv 2) (Zb (qv 1) Jn))))⟩))) (QK (Y6 (JZ Y5 (JZ Y5 (JZ Y5 (JZ Y5 Q3)))))) (Zv _)) (Q6 (ZJ Qjs)) ZZ)
   (QP (QaQ (Y3 QdI (QhQ hU) (QK (QbV hT ["_law_way", "_law_stairs_here"] [none,some 3] (YV (by rfl) T.range (Jf QR)) (λcl ex s3 H3 C hT=>⟨(Zm 0 QpU rfl (Q0 rfl) (Q8 rfl)),Zt,(Qa6 hT G5 (hr.mono (by decide)) (by rfl) m5 k5 b5 Zh (Zb (qv 0) (Zb (qv 1) (Zb (JP (ZT Z0 Yx (QK (JT ZF Qaq (by rfl) T.len YE (Qax (qp 1) Q3))) (Jf QR))) Jn))))⟩))) (QK (ZT YW QaX (QK (Y6 (JZ Y5 Q3))) (Jf QR))) (Zv _)) (Q6 (ZJ Qjs)) ZZ)
   (QP (Yd 6 (QdF Z9 Y8 (QK (Y6 (JZ (qv 3) (JZ (JP (YL (JZ QR (JZ QR (JZ QR (JZ QR Q3)))))) (JZ (JP (YL (JZ QR (JZ QR (JZ QR (JZ QR Q3)))))) (JZ (JP (YL (JZ QR (JZ QR (JZ QR (JZ QR (JZ QR (JZ QR Q3)))))))) Q3)))))) (QK (Z5 G3 (hr.mono (by decide)) (by rfl) m3 k3 b3 Zh (Y4 2 (Zb QR Jn)))) (λ_ _=>rfl)) QcM.nd)
   (Q6 (QaQ (Quw (QnK (Y3 Qgc Qbu (QK (JT (Qc8 rfl) Qgq (by rfl) T.sum QkY (Qax (qp 6) Q3))) (Jf QR) (Zv _)) (Qjo (Y3 QdI (QhQ hU) (QK (QbV hT ["_law_way", "_law_few"] [none,some 6] (YV (by rfl) T.range (Jf QR)) (λcl ex s3 H3 C hT=>⟨(Zm 0 QpT rfl (Q0 rfl) (Q8 rfl)),Zt,(Qa6 hT G5 (hr.mono (by decide)) (by rfl) m5 k5 b5 Zh (Zb (qv 0) (Zb (qv 1) (Zb (QdF Z9 Y8 (QK (Y6 (JZ QR (JZ QR (JZ QR Q3))))) (qp 0) (λ_ _=>rfl)) Jn))))⟩))) (QK (ZT YW QaX (QK (Y6 (JZ Y5 Q3))) (Jf QR))) (Zv _))))) (Q6 (ZJ Qjs)) ZZ))))))))))))
   (Q6 (ZJ (Qdl (QK (QbW Qci (Qfd hU) (Jf (Qa6 hT G5 (hr.mono (by decide)) (by rfl) m5 k5 b5 Zh (Zb QR (Zb (JP (YL (JZ QR Q3))) (Zb QR Jn))))) (Jf Y5) (Zv _))) (Qco (JP (QbW Qci (Qfd hU) (QK (QbV hT ["_law_way"] [none] (YV (by rfl) T.range (Jf QR)) (λcl ex s3 H3 C hT=>⟨(Zm 0 QpS rfl (Q0 rfl) (Q8 rfl)),Zt,(Qa6 hT G5 (hr.mono (by decide)) (by rfl) m5 k5 b5 Zh (Zb (qv 0) (Zb (JP (YL (JZ QR Q3))) (Zb QR Jn))))⟩))) (QK (ZT YW QaX (QK (Y6 (JZ Y5 Q3))) (Jf QR))) (Zv _))))))),?_⟩
 intro n0 n63;refine⟨⟨by split<;>split<;>omega,by split<;>split<;>omega⟩,Qgj (λi δ=>∃x1 x2 x3 x4 x5 x6,δ=[.scr,x1,x2,x3,x4,x5,x6]) ⟨_,_,_,_,_,_,rfl⟩ ?_ ?_⟩
 ·rintro i δ hi ⟨x1,x2,x3,x4,x5,x6,rfl⟩;refine⟨by omega,λc=>⟨c,rfl,λn1=>?_⟩⟩;refine⟨_,rfl,by decide,by decide,λr r0 r1=>⟨_,rfl,by omega,by omega,λns hs h3=>?_⟩⟩;have h6:=hs.l6;have h1:=hs.l1;have s3:=Qwe h3;have s20:ns.sum<=20:=by omega
  have ln:(ns.map Qe).length=ns.length:=Qg _;refine⟨by unfold Qwb;decide,_,rfl,by decide,by decide,λr2 r20 r21=>Qkg r20 r21 λbd hbd=>?_⟩;obtain⟨bz,b8,bs,bsh⟩:BadT bd:=Jt (p:=BadT) ⟨λn _=>rfl,rfl,λns=>rfl,Yc rfl⟩ (Jt (Qk5 (by omega)) (Jt ⟨λn _=>rfl,rfl,λns=>rfl,Yc rfl⟩ (Jt ⟨λn _=>rfl,rfl,λns=>rfl,Yc rfl⟩ (Jt ⟨λn _=>rfl,rfl,λns=>rfl,Yc rfl⟩ (Jt ⟨λn _=>rfl,rfl,λns=>rfl,Qi6 (k:=1) (Ql _) (by decide)⟩ (Jt ⟨λn _=>rfl,rfl,λns=>rfl,Yc rfl⟩ (Jt (Qk5 (by decide +kernel)) QdV))))))) bd hbd;refine⟨⟨by decide,by decide⟩,Yg (λd=>.str "stairs") (λd hd k2 hk=>?_) ?_⟩
  ·obtain⟨i,hi⟩:=Q7.mp hd;obtain⟨hi4,rfl⟩:=Qae hi;refine⟨ns,rfl,hs,λa ha=>⟨i,a,bd,by show[Sl.v (.int (0+(i:Int))),_,_]=_;rw[Qbk],Qt hi4 (by decide),bsh,?_⟩⟩;rw[QiQ ha];exact hk
  rw[QvM];refine⟨⟨by decide,by decide,by decide⟩,⟨rfl,rfl,.inl (by decide +kernel)⟩,?_⟩;refine⟨⟨by decide,by decide,by decide,by decide⟩,_,rfl,by decide,by decide,λr3 r30 r31=>Qkg r30 r31 λgd hgd=>?_⟩;obtain⟨gs,rfl,hg,g20⟩:∃gs,gd=tI gs/\Stairs gs/\20<gs.sum:=Jt (p:=λd=>∃gs,d=tI gs/\Stairs gs/\20<gs.sum) ⟨[3,6,6,6],rfl,Qbn (by decide +kernel),by decide⟩ (Jt ⟨[1,4,4,4,4,4],rfl,Qbn (by decide +kernel),by decide⟩ (Jt ⟨[6,6,6,6,6,6],rfl,Qbn (by decide +kernel),by decide⟩ (Jt ⟨[0,0,3,6,6,6],rfl,Qbn (by decide +kernel),by decide⟩ (Jt ⟨[5,5,5,6],rfl,Qbn (by decide +kernel),by decide⟩ QdV)))) gd hgd
  refine⟨⟨by decide,by decide⟩,Yg (λd=>.str (JO (toI d).toNat (tI gs) (bd))) (λd hd k2 hk=>?_) ?_⟩
  ·obtain⟨i,hi⟩:=Q7.mp hd;obtain⟨hi4,rfl⟩:=Qae hi;have hk:k2 (.str (JO (0+(i:Int)).toNat (tI gs) (bd))):=hk;rw[show(0+(i:Int)).toNat=i by omega] at hk;exact⟨i,tI gs,bd,by show[Sl.v (.int (0+(i:Int))),_,_]=_;rw[Qbk];first | done | rfl,Qt hi4 (by decide),bsh,hk⟩
  rw[QvM];rw[show JO (toI (.int 0)).toNat (tI gs) bd = "many" from QbO (w:=0) hg (by decide) g20,show JO (toI (.int 1)).toNat (tI gs) bd = "many" from QbO (w:=1) hg (by decide) g20,show JO (toI (.int 2)).toNat (tI gs) bd = "many" from QbO (w:=2) hg (by decide) g20,show JO (toI (.int 3)).toNat (tI gs) bd = "stand" from Qed hg (bs gs)];refine⟨⟨by decide,by decide,by decide⟩,by decide,⟨rfl,rfl,.inl (by decide +kernel)⟩,?_⟩;refine⟨⟨by decide,by decide⟩,Yg (λd=>.str (JO (toI d).toNat (tI ns) (bd))) (λd hd k2 hk=>?_) ?_⟩
  ·obtain⟨i,hi⟩:=Q7.mp hd;obtain⟨hi4,rfl⟩:=Qae hi;have hk:k2 (.str (JO (0+(i:Int)).toNat (tI ns) (bd))):=hk;rw[show(0+(i:Int)).toNat=i by omega] at hk;exact⟨i,tI ns,bd,by show[Sl.v (.int (0+(i:Int))),_,_]=_;rw[Qbk];first | done | rfl,Qt hi4 (by decide),bsh,hk⟩
  rw[QvM];rw[show JO (toI (.int 0)).toNat (tI ns) bd = "size" from QbN (w:=0) hs (by decide) s20 (bz _ h6),show JO (toI (.int 1)).toNat (tI ns) bd = "size" from QbN (w:=1) hs (by decide) s20 (bz _ h6),show JO (toI (.int 2)).toNat (tI ns) bd = "number" from QiS hs s20 b8,show JO (toI (.int 3)).toNat (tI ns) bd = "stand" from Qed hs (bs ns)];refine⟨⟨rfl,rfl,.inl (by decide +kernel)⟩,?_⟩;refine⟨⟨by decide,by decide⟩,Yg (λd=>.str (JO (toI d).toNat (tI ns) (.int (((ns.map Qe).length:Int)+1)))) (λd hd k2 hk=>?_) ?_⟩
  ·obtain⟨i,hi⟩:=Q7.mp hd;obtain⟨hi4,rfl⟩:=Qae hi;have hk:k2 (.str (JO (0+(i:Int)).toNat (tI ns) (.int (((ns.map Qe).length:Int)+1)))):=hk;rw[show(0+(i:Int)).toNat=i by omega] at hk;exact⟨i,tI ns,.int (((ns.map Qe).length:Int)+1),by show[Sl.v (.int (0+(i:Int))),_,_]=_;rw[Qbk];first | done | rfl,Qt hi4 (by decide),Yc rfl,hk⟩
  rw[Qxe];have sz:inW (.int (((ns.map Qe).length:Int)+1)) 0 ((ns.length:Nat):Int)=false:=Qg4 (by omega);rw[show JO (toI (.int 0)).toNat (tI ns) (.int (((ns.map Qe).length:Int)+1)) = "size" from QbN (w:=0) hs (by decide) s20 sz,show JO (toI (.int 1)).toNat (tI ns) (.int (((ns.map Qe).length:Int)+1)) = "size" from QbN (w:=1) hs (by decide) s20 sz];refine⟨⟨by decide,by decide,by decide⟩,⟨rfl,rfl,.inl (by decide +kernel)⟩,?_⟩;refine⟨_,rfl,by decide,by decide,λr4 r40 r41=>Qkg r40 r41 λfw hfw=>?_⟩;obtain⟨fs,rfl,hf,f20⟩:∃fs,fw=tI fs/\Stairs fs/\fs.sum<=20:=Jt (p:=λd=>∃gs,d=tI gs/\Stairs gs/\gs.sum<=20) ⟨ns,rfl,hs,s20⟩ (Jt ⟨[2,6,6,6],rfl,Qbn (by decide +kernel),by decide⟩ (Jt ⟨[5,5,5,5],rfl,Qbn (by decide +kernel),by decide⟩ (Jt ⟨[0,4,4,4,4,4],rfl,Qbn (by decide +kernel),by decide⟩ QdV))) fw hfw
  have f1:=hf.l1;refine QfX fs rfl ?_
  refine ifT (show decide (fs.sum<=20)=true from decide_eq_true f20) ?_
  refine⟨⟨by decide,by decide⟩,Yg (λd=>.str "told") (λd hd k2 hk=>?_) ?_⟩
  ·obtain⟨i,hi⟩:=Q7.mp hd;obtain⟨hi3,rfl⟩:=Qae hi;have hi3:i<3:=hi3;obtain rfl | rfl | rfl:i=0∨i=1∨i=2:=by omega
   ·refine⟨_,Zw (j:=0) rfl,0,tI fs,.int 0,rfl,by decide,Yc rfl,?_⟩;rw[QhA (w:=0) hf (by decide) f20 (Qdm (by decide) (by omega))];exact hk
   ·refine⟨_,Zw (j:=1) rfl,1,tI fs,.int 1,rfl,by decide,Yc rfl,?_⟩;rw[QhA (w:=1) hf (by decide) f20 (Qdm (by decide) (by omega))];exact hk
   ·refine⟨_,Zw (j:=2) rfl,2,tI fs,.int 8,rfl,by decide,Yc rfl,?_⟩;rw[QiR hf f20 (Qdm (by decide) (by decide))];exact hk
  rw[Qwu];refine⟨⟨by decide,by decide,by decide⟩,⟨rfl,rfl,.inl (by decide +kernel)⟩,?_⟩;exact⟨_,_,_,_,_,_,rfl⟩
 ·rintro δ ⟨x1,x2,x3,x4,x5,x6,rfl⟩;have h1:Stairs [1]:=Qbn (by decide +kernel);refine⟨2,tI [1],.int 9,rfl,by decide,Yc rfl,?_⟩;rw[show JO 2 (tI [1]) (.int 9) = "number" from QiS h1 (by decide) (Qg4 (by decide))];refine⟨⟨by decide,by decide⟩,Yg (λd=>.str (JO (toI d).toNat (tI [1]) (.int 1))) (λd hd k2 hk=>?_) ?_⟩
  ·obtain⟨i,hi⟩:=Q7.mp hd;obtain⟨hi4,rfl⟩:=Qae hi;have hk:k2 (.str (JO (0+(i:Int)).toNat (tI [1]) (.int 1))):=hk;rw[show(0+(i:Int)).toNat=i by omega] at hk;exact⟨i,tI [1],.int 1,by show[Sl.v (.int (0+(i:Int))),_,_]=_;rw[Qbk];first | done | rfl,Qt hi4 (by decide),Yc rfl,hk⟩
  rw[Qwu];rw[show JO (toI (.int 0)).toNat (tI [1]) (.int 1) = "told" from QhA (w:=0) h1 (by decide) (by decide) (Qdm (by decide) (by decide)),show JO (toI (.int 1)).toNat (tI [1]) (.int 1) = "told" from QhA (w:=1) h1 (by decide) (by decide) (Qdm (by decide) (by decide)),show JO (toI (.int 2)).toNat (tI [1]) (.int 1) = "told" from QiR h1 (by decide) (Qdm (by decide) (by decide))];exact⟨⟨by decide,by decide,by decide⟩,⟨rfl,rfl,.inl (by decide +kernel)⟩,rfl⟩
end
end Rk
def PySem.W.Fast.tw13070034137216764849:Nat:=0
def PySem.W.Fast.tw1068187583953843947:Nat:=0
def PySem.W.Fast.tw17839261218843179300:Nat:=0
def PySem.W.Fast.tw5004936918381634154:Nat:=0
def PySem.W.Fast.tw15149081849518578367:Nat:=0
def PySem.W.Fast.tw13577671249561221222:Nat:=0
def PySem.W.Fast.tw12355290767154504578:Nat:=0
def PySem.W.Fast.tw6564442923806440908:Nat:=0
def PySem.W.Fast.tw15157730981350337378:Nat:=0
def PySem.W.Fast.tw4894055075523679348:Nat:=0
def PySem.W.Fast.tw5972224673224954478:Nat:=0
def PySem.W.Fast.tw11792553476015156483:Nat:=0
def PySem.W.Fast.tw9920666004192644558:Nat:=0
def PySem.W.Fast.tw14768451153863934869:Nat:=0
def PySem.W.Fast.tw1120942860042642636:Nat:=0
def PySem.W.Fast.tw4579337644970485081:Nat:=0
def PySem.W.Fast.tw15387354381759274459:Nat:=0
def PySem.W.Fast.tw3849271655028091246:Nat:=0
def PySem.W.Fast.tw9258150341941731697:Nat:=0
def PySem.W.Fast.tw16669729647845295120:Nat:=0
def PySem.W.Fast.tw5443418867462501236:Nat:=0
def PySem.W.Fast.tw11643160623837439439:Nat:=0
def PySem.W.Fast.tw5474422856346362950:Nat:=0
def PySem.W.Fast.tw3628628027723145537:Nat:=0
def PySem.W.Fast.tw11007503106316918669:Nat:=0
def PySem.W.Fast.tw12525322098958416510:Nat:=0
def PySem.W.Fast.tw4174205411261528309:Nat:=0
def PySem.W.Fast.tw7465747439590140670:Nat:=0
def PySem.W.Fast.tw2471598647578904913:Nat:=0
def PySem.W.Fast.tw1998480597637400403:Nat:=0
def PySem.W.Fast.tw10358043943355556669:Nat:=0
def PySem.W.Fast.tw351609044725208643:Nat:=0
def PySem.W.Fast.tw388738830182372735:Nat:=0
def PySem.W.Fast.tw908996603042867565:Nat:=0
def PySem.W.Fast.tw4879894956714844531:Nat:=0
def PySem.W.Fast.tw4852447120213082367:Nat:=0
def PySem.W.Fast.tw3834451859814034597:Nat:=0
def PySem.W.Fast.tw1219660667067080075:Nat:=0
def PySem.W.Fast.tw13598193178427214045:Nat:=0
def PySem.W.Fast.tw11752915667906017396:Nat:=0
def PySem.W.Fast.tw2895908010232552121:Nat:=0
def PySem.W.Fast.tw8928932681931806134:Nat:=0
def PySem.W.Fast.tw6061899066921836663:Nat:=0
def PySem.W.Fast.tw13169742215963431977:Nat:=0
def PySem.W.Fast.tw9713833695328335252:Nat:=0
def PySem.W.Fast.tw9975504866281894491:Nat:=0
def PySem.W.Fast.tw1479002601255581288:Nat:=0
def PySem.W.Fast.tw13702899994704943113:Nat:=0
def PySem.W.Fast.tw797829604811872554:Nat:=0
def PySem.W.Fast.tw4992426504762158584:Nat:=0
def PySem.W.Fast.tw16601866625296716643:Nat:=0
def PySem.W.Fast.tw16545135170679497059:Nat:=0
def PySem.W.Fast.tw17907916085525122946:Nat:=0
def PySem.W.Fast.tw5844744527982376893:Nat:=0
def PySem.W.Fast.tw4079107857158293247:Nat:=0
def PySem.W.Fast.tw12180174286773138899:Nat:=0
def PySem.W.Fast.tw9165785268454907244:Nat:=0
def PySem.W.Fast.tw18352426954800842115:Nat:=0
def PySem.W.Fast.tw9689882288185402324:Nat:=0
def PySem.W.Fast.tw11753585019280195764:Nat:=0
def PySem.W.Fast.tw6431535498610292785:Nat:=0
def PySem.W.Fast.tw1623029128052621549:Nat:=0
def PySem.W.Fast.tw1945046819715883539:Nat:=0
def PySem.W.Fast.tw14437793979411754665:Nat:=0
def PySem.W.Fast.tw26172846633023243:Nat:=0
def PySem.W.Fast.tw185763338010826969:Nat:=0
def PySem.W.Fast.tw7919066630937222437:Nat:=0
def PySem.W.Fast.tw17107104771914792043:Nat:=0
def PySem.W.Fast.tw3043424118947733504:Nat:=0
def PySem.W.Fast.tw8578113564205907569:Nat:=0
def PySem.W.Fast.tw16350522886255485186:Nat:=0
def PySem.W.Fast.tw9244856619204902713:Nat:=0
def PySem.W.Fast.tw9297958110887528072:Nat:=0
def PySem.W.Fast.tw3349950562663694862:Nat:=0
def PySem.W.Fast.tw8760075234619265315:Nat:=0
def PySem.W.Fast.tw9640220800849727801:Nat:=0
def PySem.W.Fast.tw2392026530246919774:Nat:=0
def PySem.W.Fast.tw4393312755246515744:Nat:=0
def PySem.W.Fast.tw13855591087605931090:Nat:=0
def PySem.W.Fast.tw3482066370979534832:Nat:=0
def PySem.W.Fast.tw11079297731518423769:Nat:=0
def PySem.W.Fast.tw4334211701388102452:Nat:=0
def PySem.W.Fast.tw1757914284279013455:Nat:=0
def PySem.W.Fast.tw10214277313374020376:Nat:=0
def PySem.W.Fast.tw99424586849553346:Nat:=0
def PySem.W.Fast.tw16013496516094033950:Nat:=0
def PySem.W.Fast.tw17776210335602795566:Nat:=0
def PySem.W.Fast.tw18021197427697077523:Nat:=0
def PySem.W.Fast.tw7867549953984465259:Nat:=0
def PySem.W.Fast.tw13718174529199448447:Nat:=0
def PySem.W.Fast.tw6554553880238002763:Nat:=0
def PySem.W.Fast.tw4297398424830427976:Nat:=0
def PySem.W.Fast.tw5829488456005427014:Nat:=0
def PySem.W.Fast.tw15072501643762879266:Nat:=0
def PySem.W.Fast.tw12530148104939840839:Nat:=0
def PySem.W.Fast.tw8034154021166775496:Nat:=0
def PySem.W.Fast.tw17079261877757858059:Nat:=0
def PySem.W.Fast.tw11198737492734949659:Nat:=0
def PySem.W.Fast.tw307248368621629888:Nat:=0
def PySem.W.Fast.tw16688525525765759253:Nat:=0
def PySem.W.Fast.tw5905063712711498765:Nat:=0
def PySem.W.Fast.tw367388628664251079:Nat:=0
def PySem.W.Fast.tw12230862193588917851:Nat:=0
def PySem.W.Fast.tw18246534680774382055:Nat:=0
def PySem.W.Fast.tw18258049558446583968:Nat:=0
def PySem.W.Fast.tw16249945226539045281:Nat:=0
def PySem.W.Fast.tw3936451846910774702:Nat:=0
def PySem.W.Fast.tw16167098832787064679:Nat:=0
def PySem.W.Fast.tw17603360931182334065:Nat:=0
def PySem.W.Fast.tw17221513903400201562:Nat:=0
def PySem.W.Fast.tw9558964694449735:Nat:=0
def PySem.W.Fast.tw10148308932339933036:Nat:=0
def PySem.W.Fast.tw14590090055167799484:Nat:=0
def PySem.W.Fast.tw9320162451585896174:Nat:=0
def PySem.W.Fast.tw15659374313433288698:Nat:=0
def PySem.W.Fast.tw16871162471348705808:Nat:=0
def PySem.W.Fast.tw5714692599567484139:Nat:=0
def PySem.W.Fast.tw1569265386446009582:Nat:=0
def PySem.W.Fast.tw11836735740183908776:Nat:=0
def PySem.W.Fast.tw15053858563412219268:Nat:=0
def PySem.W.Fast.tw14597922637289626135:Nat:=0
def PySem.W.Fast.tw13974100627917888084:Nat:=0
def PySem.W.Fast.tw3968727636960349863:Nat:=0
def PySem.W.Fast.tw12800714438056003377:Nat:=0
def PySem.W.Fast.tw7026079331354208941:Nat:=0
def PySem.W.Fast.tw7770815057310171957:Nat:=0
def PySem.W.Fast.tw7446138292944755843:Nat:=0
def PySem.W.Fast.tw12854088640707387164:Nat:=0
def PySem.W.Fast.tw10180852073910245:Nat:=0
def PySem.W.Fast.tw16154186265769234294:Nat:=0
def PySem.W.Fast.tw4245583488648867179:Nat:=0
def PySem.W.Fast.tw2092181913735959227:Nat:=0
def PySem.W.Fast.tw5230810347878051089:Nat:=0
def PySem.W.Fast.tw475737356407390136:Nat:=0
def PySem.W.Fast.tw379663021660240648:Nat:=0
def PySem.W.Fast.tw15008934155948522631:Nat:=0
def PySem.W.Fast.tw8493816550306513662:Nat:=0
def PySem.W.Fast.tw6447285366117597528:Nat:=0
def PySem.W.Fast.tw2915401380933837910:Nat:=0
def PySem.W.Fast.tw3295539266836078731:Nat:=0
def PySem.W.Fast.tw10118474535191846436:Nat:=0
def PySem.W.Fast.tw2931825208774337303:Nat:=0
def PySem.W.Fast.tw1172527129878293363:Nat:=0
def PySem.W.Fast.tw16460594365882925642:Nat:=0
def PySem.W.Fast.tw16944438638596888228:Nat:=0
def PySem.W.Fast.tw6310236186174610742:Nat:=0
def PySem.W.Fast.tw17275001718528753551:Nat:=0
def PySem.W.Fast.tw4732307175608752781:Nat:=0
def PySem.W.Fast.tw17049679077600027393:Nat:=0
def PySem.W.Fast.tw3374297162623327070:Nat:=0
def PySem.W.Fast.tw2907475916925348008:Nat:=0
def PySem.W.Fast.tw11456843594268460616:Nat:=0
def PySem.W.Fast.tw12714927284253189128:Nat:=0
def PySem.W.Fast.tw5385459714990239164:Nat:=0
def PySem.W.Fast.tw15416259570831420763:Nat:=0
def PySem.W.Fast.tw8953688030411001038:Nat:=0
def PySem.W.Fast.tw16674329679811045417:Nat:=0
def PySem.W.Fast.tw16003806968091441769:Nat:=0
def PySem.W.Fast.tw3712673897256718331:Nat:=0
def PySem.W.Fast.tw3321344949606416289:Nat:=0
def PySem.W.Fast.tw13728179241612392055:Nat:=0
def PySem.W.Fast.tw10748329278347890870:Nat:=0
def PySem.W.Fast.tw1070682576146395247:Nat:=0
def PySem.W.Fast.tw4440734433552065802:Nat:=0
def PySem.W.Fast.tw9966780274002247185:Nat:=0
def PySem.W.Fast.tw2861657392042030383:Nat:=0
def PySem.W.Fast.tw304387561288257263:Nat:=0
def PySem.W.Fast.tw1516763694600701814:Nat:=0
def PySem.W.Fast.tw1338466623278932433:Nat:=0
def PySem.W.Fast.tw9201443244490407425:Nat:=0
def PySem.W.Fast.tw10836065688633500248:Nat:=0
def PySem.W.Fast.tw12103532125028576237:Nat:=0
def PySem.W.Fast.tw14444275793632603326:Nat:=0
def PySem.W.Fast.tw10932538728557438940:Nat:=0
def PySem.W.Fast.tw14287336279416490312:Nat:=0
def PySem.W.Fast.tw16614267357693580109:Nat:=0
def PySem.W.Fast.tw18245583649164154500:Nat:=0
def PySem.W.Fast.tw10641176973761323083:Nat:=0
def PySem.W.Fast.tw5825648044268996826:Nat:=0
def PySem.W.Fast.tw3068971575897196235:Nat:=0
def PySem.W.Fast.tw5922999263881479976:Nat:=0
def PySem.W.Fast.tw6091579514169948799:Nat:=0
def PySem.W.Fast.tw14710485619099389606:Nat:=0
def PySem.W.Fast.tw16729404331179207932:Nat:=0
def PySem.W.Fast.tw4273904883936733317:Nat:=0
def PySem.W.Fast.tw5600144080890988827:Nat:=0
def PySem.W.Fast.tw6260068141413762762:Nat:=0
def PySem.W.Fast.tw1487065610718172975:Nat:=0
def PySem.W.Fast.tw10152962418233736294:Nat:=0
def PySem.W.Fast.tw410035238473902198:Nat:=0
def PySem.W.Fast.tw10814055840090624194:Nat:=0
def PySem.W.Fast.tw8816973622890378418:Nat:=0
def PySem.W.Fast.tw17072050249112610896:Nat:=0
def PySem.W.Fast.tw3105025904860259334:Nat:=0
def PySem.W.Fast.tw10995459170629602104:Nat:=0
def PySem.W.Fast.tw10406801839018356918:Nat:=0
def PySem.W.Fast.tw15130864257381468354:Nat:=0
def PySem.W.Fast.tw3569522055383287192:Nat:=0
def PySem.W.Fast.tw9891307148830225927:Nat:=0
def PySem.W.Fast.tw12093909715637780430:Nat:=0
def PySem.W.Fast.tw16671030661970853890:Nat:=0
def PySem.W.Fast.tw8406202211358206330:Nat:=0
def PySem.W.Fast.tw272930862113149965:Nat:=0
def PySem.W.Fast.tw17433017507305455438:Nat:=0
def PySem.W.Fast.tw7406868566974313352:Nat:=0
def PySem.W.Fast.tw16410408372899340888:Nat:=0
def PySem.W.Fast.tw2394006820096975115:Nat:=0
def PySem.W.Fast.tw1365636416750393492:Nat:=0
def PySem.W.Fast.tw16057122746630384605:Nat:=0
def PySem.W.Fast.tw4407200216952303679:Nat:=0
def PySem.W.Fast.tw11679312273597106562:Nat:=0
def PySem.W.Fast.tw9191103103721385010:Nat:=0
def PySem.W.Fast.tw16108852250729639184:Nat:=0
def PySem.W.Fast.tw9704567449116830672:Nat:=0
def PySem.W.Fast.tw5614991635688416900:Nat:=0
def PySem.W.Fast.tw450690578099235959:Nat:=0
def PySem.W.Fast.tw17375487631145948740:Nat:=0
def PySem.W.Fast.tw8121688820719026654:Nat:=0
def PySem.W.Fast.tw729760774475768889:Nat:=0
def PySem.W.Fast.tw8604390167314645241:Nat:=0
def PySem.W.Fast.tw4216992253345165789:Nat:=0
def PySem.W.Fast.tw11972588402440133478:Nat:=0
def PySem.W.Fast.tw4576675829440315824:Nat:=0
def PySem.W.Fast.tw1921081409447651289:Nat:=0
def PySem.W.Fast.tw3232823887817398583:Nat:=0
def PySem.W.Fast.tw6011877114261160976:Nat:=0
def PySem.W.Fast.tw3225953172480003678:Nat:=0
def PySem.W.Fast.tw16698097508276359989:Nat:=0
def PySem.W.Fast.tw15451687362928390104:Nat:=0
def PySem.W.Fast.tw12086597197744752322:Nat:=0
def PySem.W.Fast.tw2715772969691704166:Nat:=0
def PySem.W.Fast.tw8902013830212472527:Nat:=0
def PySem.W.Fast.tw4518640445314689992:Nat:=0
def PySem.W.Fast.tw7925097307657524550:Nat:=0
def PySem.W.Fast.tw15666201311925576250:Nat:=0
def PySem.W.Fast.tw15624297438737185547:Nat:=0
def PySem.W.Fast.tw14637852607520778829:Nat:=0
def PySem.W.Fast.tw13082744980501871426:Nat:=0
def PySem.W.Fast.tw13211099251995743074:Nat:=0
def PySem.W.Fast.tw5700637317457666622:Nat:=0
def PySem.W.Fast.tw956480093081934799:Nat:=0
def PySem.W.Fast.tw6402611302432697364:Nat:=0
def PySem.W.Fast.tw14952829406853472178:Nat:=0
def PySem.W.Fast.tw9701560406454603832:Nat:=0
def PySem.W.Fast.tw9806833591551553556:Nat:=0
def PySem.W.Fast.tw14380504372371439477:Nat:=0
def PySem.W.Fast.tw11492068939047115860:Nat:=0
def PySem.W.Fast.tw4036840414672380795:Nat:=0
def PySem.W.Fast.tw3455400227791797801:Nat:=0
def PySem.W.Fast.tw5409221286496391269:Nat:=0
def PySem.W.Fast.tw660759130852061732:Nat:=0
def PySem.W.Fast.tw8177814447798816923:Nat:=0
def PySem.W.Fast.tw12940162433452539497:Nat:=0
def PySem.W.Fast.tw12606291323864292257:Nat:=0
def PySem.W.Fast.tw11792982130150837920:Nat:=0
def PySem.W.Fast.tw76722864387493587:Nat:=0
def PySem.W.Fast.tw5755375128366685774:Nat:=0
def PySem.W.Fast.tw13876563070697335981:Nat:=0
def PySem.W.Fast.tw5569108867869067220:Nat:=0
def PySem.W.Fast.tw12705361542553189150:Nat:=0
def PySem.W.Fast.tw9827510306725036840:Nat:=0
def PySem.W.Fast.tw10478534900095414070:Nat:=0
def PySem.W.Fast.tw125729908605308297:Nat:=0
def PySem.W.Fast.tw6195434884748293280:Nat:=0
def PySem.W.Fast.tw11860797264384981046:Nat:=0
def PySem.W.Fast.tw15857112359801376740:Nat:=0
def PySem.W.Fast.tw15401167602542555319:Nat:=0
def PySem.W.Fast.tw11484141875065197662:Nat:=0
def PySem.W.Fast.tw656698086858772289:Nat:=0
def PySem.W.Fast.tw13337956859117416328:Nat:=0
def PySem.W.Fast.tw10183901055197259488:Nat:=0
def PySem.W.Fast.tw3165815026560435635:Nat:=0
def PySem.W.Fast.tw3775263025424375304:Nat:=0
def PySem.W.Fast.tw5210005648192748874:Nat:=0
def PySem.W.Fast.tw4121202863054300337:Nat:=0
def PySem.W.Fast.tw13452906059805684204:Nat:=0
def PySem.W.Fast.tw11910518469722925480:Nat:=0
def PySem.W.Fast.tw17586814241638030448:Nat:=0
def PySem.W.Fast.tw4455645098889342823:Nat:=0
def PySem.W.Fast.tw18182068898386848961:Nat:=0
def PySem.W.Fast.tw17584902645023791646:Nat:=0
def PySem.W.Fast.tw13773473028748816034:Nat:=0
def PySem.W.Fast.tw8569170561510197563:Nat:=0
def PySem.W.Fast.tw1934735167708304384:Nat:=0
namespace Rk
open L2
theorem Qt8{l:PySem.W.OpenLaw}{w:Je}{K:PySem.W.Frag}{h:JM}{mg:Str->Option Value}{fa f1 f2 f3 f4 f5 f6 f7 f8 f9 f10 f11 f12 f13 f14 f15 f16 f17 f18 f19 f20 f21 f22 f23 f24 f25 f26 f27 f28 f29 f30 f31 f32 f33:Addr}(X:K.In h)(G:h.Ns mainGlobals mg)(hfa:mg "law" = some (.ref fa))
  {od1 an1 od2 an2 od3 an3 od4 an4 od5 an5 od6 an6 od7 an7 od8 an8 od9 an9 od10 an10 od11 an11 od12 an12 od13 an13 od14 an14 od15 an15 od16 an16 od17 an17 od18 an18 od19 an19 od20 an20 od21 an21 od22 an22 od23 an23 od24 an24 od25 an25 od26 an26 od27 an27 od28 an28 od29 an29 od30 an30 od31 an31 od32 an32 od33 an33:Option Addr} {sl1 sl2 sl3 sl4 sl5 sl6 sl7 sl8 sl9 sl10 sl11 sl12 sl13 sl14 sl15 sl16 sl17 sl18 sl19 sl20 sl21 sl22 sl23 sl24 sl25 sl26 sl27 sl28 sl29 sl30 sl31 sl32 sl33:Array (Option Value)} {oc1 kV1 dc1 pm1 cd1 ct1 oc2 kV2 dc2 pm2 cd2 ct2 oc3 kV3 dc3 pm3 cd3 ct3 oc4 kV4 dc4 pm4 cd4 ct4 oc5 kV5 dc5 pm5 cd5 ct5 oc6 kV6 dc6 pm6 cd6 ct6 oc7 kV7 dc7 pm7 cd7 ct7 oc8 kV8 dc8 pm8 cd8 ct8 oc9 kV9 dc9 pm9 cd9 ct9 oc10 kV10 dc10 pm10 cd10 ct10 oc11 kV11 dc11 pm11 cd11 ct11 oc12 kV12 dc12 pm12 cd12 ct12 oc13 kV13 dc13 pm13 cd13 ct13 oc14 kV14 dc14 pm14 cd14 ct14 oc15 kV15 dc15 pm15 cd15 ct15 oc16 kV16 dc16 pm16 cd16 ct16 oc17 kV17 dc17 pm17 cd17 ct17 oc18 kV18 dc18 pm18 cd18 ct18 oc19 kV19 dc19 pm19 cd19 ct19 oc20 kV20 dc20 pm20 cd20 ct20 oc21 kV21 dc21 pm21 cd21 ct21 oc22 kV22 dc22 pm22 cd22 ct22 oc23 kV23 dc23 pm23 cd23 ct23 oc24 kV24 dc24 pm24 cd24 ct24 oc25 kV25 dc25 pm25 cd25 ct25 oc26 kV26 dc26 pm26 cd26 ct26 oc27 kV27 dc27 pm27 cd27 ct27 oc28 kV28 dc28 pm28 cd28 ct28 oc29 kV29 dc29 pm29 cd29 ct29 oc30 kV30 dc30 pm30 cd30 ct30 oc31 kV31 dc31 pm31 cd31 ct31 oc32 kV32 dc32 pm32 cd32 ct32 oc33 kV33 dc33 pm33 cd33 ct33:Value}
  (a1:PySem.W.nsIn K mainGlobals "is_whole" = some (some (.ref f1))) (l1:K.lookup f1=some ⟨oc1,od1,.func (PySem.W.fnOf "is_whole" "is_whole" (Js Qdu) (Jd Qdu) (Qk Qdu) .none kV1 dc1 pm1 an1 cd1 ct1),sl1⟩) (c1:PySem.W.codeIn K cd1 "is_whole" = true) (k1:PySem.W.keepIn K (.ref f1)=true)
  (a2:PySem.W.nsIn K mainGlobals "is_whole_within" = some (some (.ref f2)))(l2:K.lookup f2=some ⟨oc2,od2,.func (PySem.W.fnOf "is_whole_within" "is_whole_within" (Js QbQ) (Jd QbQ) (Qk QbQ) .none kV2 dc2 pm2 an2 cd2 ct2),sl2⟩)(c2:PySem.W.codeIn K cd2 "is_whole_within" = true)(k2:PySem.W.keepIn K (.ref f2)=true)
  (a3:PySem.W.nsIn K mainGlobals "is_rising" = some (some (.ref f3)))(l3:K.lookup f3=some ⟨oc3,od3,.func (PySem.W.fnOf "is_rising" "is_rising" (Js QbT) (Jd QbT) (Qk QbT) .none kV3 dc3 pm3 an3 cd3 ct3),sl3⟩)(c3:PySem.W.codeIn K cd3 "is_rising" = true)(k3:PySem.W.keepIn K (.ref f3)=true)
  (a4:PySem.W.nsIn K mainGlobals "is_never_falling" = some (some (.ref f4)))(l4:K.lookup f4=some ⟨oc4,od4,.func (PySem.W.fnOf "is_never_falling" "is_never_falling" (Js Qdx) (Jd Qdx) (Qk Qdx) .none kV4 dc4 pm4 an4 cd4 ct4),sl4⟩)(c4:PySem.W.codeIn K cd4 "is_never_falling" = true)(k4:PySem.W.keepIn K (.ref f4)=true)
  (a5:PySem.W.nsIn K mainGlobals "is_cells" = some (some (.ref f5)))(l5:K.lookup f5=some ⟨oc5,od5,.func (PySem.W.fnOf "is_cells" "is_cells" (Js QdC) (Jd QdC) (Qk QdC) .none kV5 dc5 pm5 an5 cd5 ct5),sl5⟩)(c5:PySem.W.codeIn K cd5 "is_cells" = true)(k5:PySem.W.keepIn K (.ref f5)=true)
  (a6:PySem.W.nsIn K mainGlobals "is_place" = some (some (.ref f6)))(l6:K.lookup f6=some ⟨oc6,od6,.func (PySem.W.fnOf "is_place" "is_place" (Js Qdw) (Jd Qdw) (Qk Qdw) .none kV6 dc6 pm6 an6 cd6 ct6),sl6⟩)(c6:PySem.W.codeIn K cd6 "is_place" = true)(k6:PySem.W.keepIn K (.ref f6)=true)
  (a7:PySem.W.nsIn K mainGlobals "is_stairs" = some (some (.ref f7)))(l7:K.lookup f7=some ⟨oc7,od7,.func (PySem.W.fnOf "is_stairs" "is_stairs" (Js QbR) (Jd QbR) (Qk QbR) .none kV7 dc7 pm7 an7 cd7 ct7),sl7⟩)(c7:PySem.W.codeIn K cd7 "is_stairs" = true)(k7:PySem.W.keepIn K (.ref f7)=true)
  (a8:PySem.W.nsIn K mainGlobals "refuse_no_stairs" = some (some (.ref f8)))(l8:K.lookup f8=some ⟨oc8,od8,.func (PySem.W.fnOf "refuse_no_stairs" "refuse_no_stairs" (Js QhE) (Jd QhE) (Qk QhE) .none kV8 dc8 pm8 an8 cd8 ct8),sl8⟩)(c8:PySem.W.codeIn K cd8 "refuse_no_stairs" = true)(k8:PySem.W.keepIn K (.ref f8)=true)
  (a9:PySem.W.nsIn K mainGlobals "stair_board" = some (some (.ref f9)))(l9:K.lookup f9=some ⟨oc9,od9,.func (PySem.W.fnOf "stair_board" "stair_board" (Js QbS) (Jd QbS) (Qk QbS) .none kV9 dc9 pm9 an9 cd9 ct9),sl9⟩)(c9:PySem.W.codeIn K cd9 "stair_board" = true)(k9:PySem.W.keepIn K (.ref f9)=true)
  (a10:PySem.W.nsIn K mainGlobals "heads" = some (some (.ref f10)))(l10:K.lookup f10=some ⟨oc10,od10,.func (PySem.W.fnOf "heads" "heads" (Js QdA) (Jd QdA) (Qk QdA) .none kV10 dc10 pm10 an10 cd10 ct10),sl10⟩)(c10:PySem.W.codeIn K cd10 "heads" = true)(k10:PySem.W.keepIn K (.ref f10)=true)
  (a11:PySem.W.nsIn K mainGlobals "multiplied" = some (some (.ref f11)))(l11:K.lookup f11=some ⟨oc11,od11,.func (PySem.W.fnOf "multiplied" "multiplied" (Js QhH) (Jd QhH) (Qk QhH) .none kV11 dc11 pm11 an11 cd11 ct11),sl11⟩)(c11:PySem.W.codeIn K cd11 "multiplied" = true)(k11:PySem.W.keepIn K (.ref f11)=true)
  (a12:PySem.W.nsIn K mainGlobals "is_stand" = some (some (.ref f12)))(l12:K.lookup f12=some ⟨oc12,od12,.func (PySem.W.fnOf "is_stand" "is_stand" (Js Qdv) (Jd Qdv) (Qk Qdv) .none kV12 dc12 pm12 an12 cd12 ct12),sl12⟩)(c12:PySem.W.codeIn K cd12 "is_stand" = true)(k12:PySem.W.keepIn K (.ref f12)=true)
  (a13:PySem.W.nsIn K mainGlobals "are_apart" = some (some (.ref f13)))(l13:K.lookup f13=some ⟨oc13,od13,.func (PySem.W.fnOf "are_apart" "are_apart" (Js QdE) (Jd QdE) (Qk QdE) .none kV13 dc13 pm13 an13 cd13 ct13),sl13⟩)(c13:PySem.W.codeIn K cd13 "are_apart" = true)(k13:PySem.W.keepIn K (.ref f13)=true)
  (a14:PySem.W.nsIn K mainGlobals "every_stand" = some (some (.ref f14)))(l14:K.lookup f14=some ⟨oc14,od14,.func (PySem.W.fnOf "every_stand" "every_stand" (Js QdB) (Jd QdB) (Qk QdB) .none kV14 dc14 pm14 an14 cd14 ct14),sl14⟩)(c14:PySem.W.codeIn K cd14 "every_stand" = true)(k14:PySem.W.keepIn K (.ref f14)=true)
  (a15:PySem.W.nsIn K mainGlobals "followers" = some (some (.ref f15)))(l15:K.lookup f15=some ⟨oc15,od15,.func (PySem.W.fnOf "followers" "followers" (Js sFol) (Jd sFol) (Qk sFol) .none kV15 dc15 pm15 an15 cd15 ct15),sl15⟩)(c15:PySem.W.codeIn K cd15 "followers" = true)(k15:PySem.W.keepIn K (.ref f15)=true)
  (a16:PySem.W.nsIn K mainGlobals "row_behind" = some (some (.ref f16)))(l16:K.lookup f16=some ⟨oc16,od16,.func (PySem.W.fnOf "row_behind" "row_behind" (Js QhC) (Jd QhC) (Qk QhC) .none kV16 dc16 pm16 an16 cd16 ct16),sl16⟩)(c16:PySem.W.codeIn K cd16 "row_behind" = true)(k16:PySem.W.keepIn K (.ref f16)=true)
  (a17:PySem.W.nsIn K mainGlobals "left_cells" = some (some (.ref f17)))(l17:K.lookup f17=some ⟨oc17,od17,.func (PySem.W.fnOf "left_cells" "left_cells" (Js Qdz) (Jd Qdz) (Qk Qdz) .none kV17 dc17 pm17 an17 cd17 ct17),sl17⟩)(c17:PySem.W.codeIn K cd17 "left_cells" = true)(k17:PySem.W.keepIn K (.ref f17)=true)
  (a18:PySem.W.nsIn K mainGlobals "cells_left" = some (some (.ref f18)))(l18:K.lookup f18=some ⟨oc18,od18,.func (PySem.W.fnOf "cells_left" "cells_left" (Js QdD) (Jd QdD) (Qk QdD) .none kV18 dc18 pm18 an18 cd18 ct18),sl18⟩)(c18:PySem.W.codeIn K cd18 "cells_left" = true)(k18:PySem.W.keepIn K (.ref f18)=true)
  (a19:PySem.W.nsIn K mainGlobals "is_left" = some (some (.ref f19)))(l19:K.lookup f19=some ⟨oc19,od19,.func (PySem.W.fnOf "is_left" "is_left" (Js QbU) (Jd QbU) (Qk QbU) .none kV19 dc19 pm19 an19 cd19 ct19),sl19⟩)(c19:PySem.W.codeIn K cd19 "is_left" = true)(k19:PySem.W.keepIn K (.ref f19)=true)
  (a20:PySem.W.nsIn K mainGlobals "by_weight" = some (some (.ref f20)))(l20:K.lookup f20=some ⟨oc20,od20,.func (PySem.W.fnOf "by_weight" "by_weight" (Js sByW) (Jd sByW) (Qk sByW) .none kV20 dc20 pm20 an20 cd20 ct20),sl20⟩)(c20:PySem.W.codeIn K cd20 "by_weight" = true)(k20:PySem.W.keepIn K (.ref f20)=true)
  (a21:PySem.W.nsIn K mainGlobals "lightest" = some (some (.ref f21)))(l21:K.lookup f21=some ⟨oc21,od21,.func (PySem.W.fnOf "lightest" "lightest" (Js Qdy) (Jd Qdy) (Qk Qdy) .none kV21 dc21 pm21 an21 cd21 ct21),sl21⟩)(c21:PySem.W.codeIn K cd21 "lightest" = true)(k21:PySem.W.keepIn K (.ref f21)=true)
  (a22:PySem.W.nsIn K mainGlobals "weight" = some (some (.ref f22)))(l22:K.lookup f22=some ⟨oc22,od22,.func (PySem.W.fnOf "weight" "weight" (Js sWt) (Jd sWt) (Qk sWt) .none kV22 dc22 pm22 an22 cd22 ct22),sl22⟩)(c22:PySem.W.codeIn K cd22 "weight" = true)(k22:PySem.W.keepIn K (.ref f22)=true)
  (a23:PySem.W.nsIn K mainGlobals "ones_product" = some (some (.ref f23)))(l23:K.lookup f23=some ⟨oc23,od23,.func (PySem.W.fnOf "ones_product" "ones_product" (Js QhG) (Jd QhG) (Qk QhG) .none kV23 dc23 pm23 an23 cd23 ct23),sl23⟩)(c23:PySem.W.codeIn K cd23 "ones_product" = true)(k23:PySem.W.keepIn K (.ref f23)=true)
  (a24:PySem.W.nsIn K mainGlobals "refuse_too_many" = some (some (.ref f24)))(l24:K.lookup f24=some ⟨oc24,od24,.func (PySem.W.fnOf "refuse_too_many" "refuse_too_many" (Js QhF) (Jd QhF) (Qk QhF) .none kV24 dc24 pm24 an24 cd24 ct24),sl24⟩)(c24:PySem.W.codeIn K cd24 "refuse_too_many" = true)(k24:PySem.W.keepIn K (.ref f24)=true)
  (a25:PySem.W.nsIn K mainGlobals "refuse_no_size" = some (some (.ref f25)))(l25:K.lookup f25=some ⟨oc25,od25,.func (PySem.W.fnOf "refuse_no_size" "refuse_no_size" (Js QhD) (Jd QhD) (Qk QhD) .none kV25 dc25 pm25 an25 cd25 ct25),sl25⟩)(c25:PySem.W.codeIn K cd25 "refuse_no_size" = true)(k25:PySem.W.keepIn K (.ref f25)=true)
  (a26:PySem.W.nsIn K mainGlobals "_law_cell_at" = some (some (.ref f26)))(l26:K.lookup f26=some ⟨oc26,od26,.func (PySem.W.fnOf "_law_cell_at" "_law_cell_at" (Js Qb4) (Jd Qb4) (Qk Qb4) .none kV26 dc26 pm26 an26 cd26 ct26),sl26⟩)(c26:PySem.W.codeIn K cd26 "_law_cell_at" = true)(k26:PySem.W.keepIn K (.ref f26)=true)
  (a27:PySem.W.nsIn K mainGlobals "_law_pot" = some (some (.ref f27)))(l27:K.lookup f27=some ⟨oc27,od27,.func (PySem.W.fnOf "_law_pot" "_law_pot" (Js lPot) (Jd lPot) (Qk lPot) .none kV27 dc27 pm27 an27 cd27 ct27),sl27⟩)(c27:PySem.W.codeIn K cd27 "_law_pot" = true)(k27:PySem.W.keepIn K (.ref f27)=true)
  (a28:PySem.W.nsIn K mainGlobals "_law_take" = some (some (.ref f28)))(l28:K.lookup f28=some ⟨oc28,od28,.func (PySem.W.fnOf "_law_take" "_law_take" (Js QhX) (Jd QhX) (Qk QhX) .none kV28 dc28 pm28 an28 cd28 ct28),sl28⟩)(c28:PySem.W.codeIn K cd28 "_law_take" = true)(k28:PySem.W.keepIn K (.ref f28)=true)
  (a29:PySem.W.nsIn K mainGlobals "_law_stairs" = some (some (.ref f29)))(l29:K.lookup f29=some ⟨oc29,od29,.func (PySem.W.fnOf "_law_stairs" "_law_stairs" (Js Qb3) (Jd Qb3) (Qk Qb3) .none kV29 dc29 pm29 an29 cd29 ct29),sl29⟩)(c29:PySem.W.codeIn K cd29 "_law_stairs" = true)(k29:PySem.W.keepIn K (.ref f29)=true)
  (a30:PySem.W.nsIn K mainGlobals "_law_kind_of" = some (some (.ref f30)))(l30:K.lookup f30=some ⟨oc30,od30,.func (PySem.W.fnOf "_law_kind_of" "_law_kind_of" (Js QhZ) (Jd QhZ) (Qk QhZ) .none kV30 dc30 pm30 an30 cd30 ct30),sl30⟩)(c30:PySem.W.codeIn K cd30 "_law_kind_of" = true)(k30:PySem.W.keepIn K (.ref f30)=true)
  (a31:PySem.W.nsIn K mainGlobals "_law_told" = some (some (.ref f31)))(l31:K.lookup f31=some ⟨oc31,od31,.func (PySem.W.fnOf "_law_told" "_law_told" (Js QhW) (Jd QhW) (Qk QhW) .none kV31 dc31 pm31 an31 cd31 ct31),sl31⟩)(c31:PySem.W.codeIn K cd31 "_law_told" = true)(k31:PySem.W.keepIn K (.ref f31)=true)
  (a32:PySem.W.nsIn K mainGlobals "_law_none" = some (some (.ref f32)))(l32:K.lookup f32=some ⟨oc32,od32,.func (PySem.W.fnOf "_law_none" "_law_none" (Js QhY) (Jd QhY) (Qk QhY) .none kV32 dc32 pm32 an32 cd32 ct32),sl32⟩)(c32:PySem.W.codeIn K cd32 "_law_none" = true)(k32:PySem.W.keepIn K (.ref f32)=true)
  (a33:PySem.W.nsIn K mainGlobals "law" = some (some (.ref f33)))(l33:K.lookup f33=some ⟨oc33,od33,.func (PySem.W.fnOf "law" "law" (Js sLaw) (Jd sLaw) (Qk sLaw) .none kV33 dc33 pm33 an33 cd33 ct33),sl33⟩)(c33:PySem.W.codeIn K cd33 "law" = true)(k33:PySem.W.keepIn K (.ref f33)=true)
  (z1:PySem.W.nsIn K mainGlobals "isinstance" = some none)
  (z2:PySem.W.nsIn K mainGlobals "int" = some none)
  (z3:PySem.W.nsIn K mainGlobals "bool" = some none)
  (z4:PySem.W.nsIn K mainGlobals "str" = some none)
  (z5:PySem.W.nsIn K mainGlobals "tuple" = some none)
  (z6:PySem.W.nsIn K mainGlobals "list" = some none)
  (z7:PySem.W.nsIn K mainGlobals "all" = some none)
  (z8:PySem.W.nsIn K mainGlobals "len" = some none)
  (z9:PySem.W.nsIn K mainGlobals "zip" = some none)
  (z10:PySem.W.nsIn K mainGlobals "enumerate" = some none)
  (z11:PySem.W.nsIn K mainGlobals "range" = some none)
  (z12:PySem.W.nsIn K mainGlobals "max" = some none)
  (z13:PySem.W.nsIn K mainGlobals "min" = some none)
  (z14:PySem.W.nsIn K mainGlobals "sorted" = some none)
  (z15:PySem.W.nsIn K mainGlobals "sum" = some none)
  (z16:PySem.W.nsIn K mainGlobals "set" = some none)
  (z17:PySem.W.nsIn K mainGlobals "any" = some none)
  (z18:PySem.W.nsIn K mainGlobals "reversed" = some none)
  (z19:PySem.W.nsIn K mainGlobals "divmod" = some none)
  (z20:PySem.W.nsIn K mainGlobals "ValueError" = some none)
  {tA:_} (aA:PySem.W.nsIn K mainGlobals "MOST_LINES" = some (some (.int 6 tA)))
  {tB:_} (aB:PySem.W.nsIn K mainGlobals "MOST_CELLS" = some (some (.int 20 tB)))
  {tC:_} (aC:PySem.W.nsIn K mainGlobals "MOST_ADDED" = some (some (.int 8 tC)))
  {tc tP:Addr} (tT:PySem.W.tabIn K "lightest" = some (tc,tP))
  {cc1:Addr} (e1:PySem.W.nsIn K mainGlobals "NoOrder" = some (some (.ref cc1)))
  {cc2:Addr} (e2:PySem.W.nsIn K mainGlobals "NoSize" = some (some (.ref cc2)))
  {cc3:Addr} (e3:PySem.W.nsIn K mainGlobals "TooMany" = some (some (.ref cc3)))
  {cc4:Addr} (e4:PySem.W.nsIn K mainGlobals "NoNumber" = some (some (.ref cc4)))
  {cc5:Addr} (e5:PySem.W.nsIn K mainGlobals "NoStand" = some (some (.ref cc5)))
  {cc6:Addr} (e6:PySem.W.nsIn K mainGlobals "NotSquare" = some (some (.ref cc6)))
  {cc7:Addr} (e7:PySem.W.nsIn K mainGlobals "NoCounts" = some (some (.ref cc7)))
  {cc8:Addr} (e8:PySem.W.nsIn K mainGlobals "NoHits" = some (some (.ref cc8)))
  {cc9:Addr} (e9:PySem.W.nsIn K mainGlobals "NoStairs" = some (some (.ref cc9)))
  {cc10:Addr} (e10:PySem.W.nsIn K mainGlobals "NotAlike" = some (some (.ref cc10)))
  {cc11:Addr} (e11:PySem.W.nsIn K mainGlobals "NoText" = some (some (.ref cc11)))
  {cc12:Addr} (e12:PySem.W.nsIn K mainGlobals "NoLines" = some (some (.ref cc12)))
  {cc13:Addr} (e13:PySem.W.nsIn K mainGlobals "TooFew" = some (some (.ref cc13)))
  {cc14:Addr} (e14:PySem.W.nsIn K mainGlobals "NoCell" = some (some (.ref cc14)))
  {cc15:Addr} (e15:PySem.W.nsIn K mainGlobals "NoParting" = some (some (.ref cc15)))
  {cc16:Addr} (e16:PySem.W.nsIn K mainGlobals "NoPlace" = some (some (.ref cc16)))
  {cc17:Addr} (e17:PySem.W.nsIn K mainGlobals "Double" = some (some (.ref cc17)))
  {cc18:Addr} (e18:PySem.W.nsIn K mainGlobals "NoDeed" = some (some (.ref cc18)))
  {cc19:Addr} (e19:PySem.W.nsIn K mainGlobals "NoRow" = some (some (.ref cc19)))
  {cR:Addr} (eR:PySem.W.nsIn K mainGlobals "RookError" = some (some (.ref cR)))
  (r1:PySem.W.typeIn K (.ref cR)=some (.type "type"))
  {dR:_} (r2:PySem.W.clsIn K cR=some dR)
  (r3:PySem.W.mroIn K cR (.type "BaseException")=some true)
  (u1:PySem.W.specialIn K (.builtin "object.__class__") "__get__" = some (some (.builtin "getset_descriptor.__get__")))
  (u2:PySem.W.takesIn K (.builtin "object.__class__")=some true)
  (q9x:PySem.W.excIn K cc9 Rx.mroV "ValueError.__new__" = true)
  (q9r:PySem.W.mroIn K cc9 (.ref cR)=some true)
  (q9g:PySem.W.findIn K (.ref cc9) "__getattribute__" = some (some (.builtin "BaseException.__getattribute__")))
  (q9h:PySem.W.findIn K (.ref cc9) "__getattr__" = some none)
  (q9b:PySem.W.mroIn K cc9 (.type "BaseException")=some true)
  {dq9:_} (q9c:PySem.W.clsIn K cc9=some dq9)
  (q9a:PySem.W.findIn K (.ref cc9) "__class__" = some (some (.builtin "object.__class__")))
  (q9o:PySem.W.mroIn K cc9 (.type "object")=some true)
  (q9v:PySem.W.kitOne K (.ref cc9) (.type "ValueError")=some true)
  (q9k1:PySem.W.kitOne K (.ref cc9) (.ref cc1)=some false)
  (q9k2:PySem.W.kitOne K (.ref cc9) (.ref cc2)=some false)
  (q9k3:PySem.W.kitOne K (.ref cc9) (.ref cc3)=some false)
  (q9k4:PySem.W.kitOne K (.ref cc9) (.ref cc4)=some false)
  (q9k5:PySem.W.kitOne K (.ref cc9) (.ref cc5)=some false)
  (q9k6:PySem.W.kitOne K (.ref cc9) (.ref cc6)=some false)
  (q9k7:PySem.W.kitOne K (.ref cc9) (.ref cc7)=some false)
  (q9k8:PySem.W.kitOne K (.ref cc9) (.ref cc8)=some false)
  (q9k9:PySem.W.kitOne K (.ref cc9) (.ref cc9)=some true)
  (q9k10:PySem.W.kitOne K (.ref cc9) (.ref cc10)=some false)
  (q9k11:PySem.W.kitOne K (.ref cc9) (.ref cc11)=some false)
  (q9k12:PySem.W.kitOne K (.ref cc9) (.ref cc12)=some false)
  (q9k13:PySem.W.kitOne K (.ref cc9) (.ref cc13)=some false)
  (q9k14:PySem.W.kitOne K (.ref cc9) (.ref cc14)=some false)
  (q9k15:PySem.W.kitOne K (.ref cc9) (.ref cc15)=some false)
  (q9k16:PySem.W.kitOne K (.ref cc9) (.ref cc16)=some false)
  (q9k17:PySem.W.kitOne K (.ref cc9) (.ref cc17)=some false)
  (q9k18:PySem.W.kitOne K (.ref cc9) (.ref cc18)=some false)
  (q9k19:PySem.W.kitOne K (.ref cc9) (.ref cc19)=some false)
  (q3x:PySem.W.excIn K cc3 Rx.mroV "ValueError.__new__" = true)
  (q3r:PySem.W.mroIn K cc3 (.ref cR)=some true)
  (q3g:PySem.W.findIn K (.ref cc3) "__getattribute__" = some (some (.builtin "BaseException.__getattribute__")))
  (q3h:PySem.W.findIn K (.ref cc3) "__getattr__" = some none)
  (q3b:PySem.W.mroIn K cc3 (.type "BaseException")=some true)
  {dq3:_} (q3c:PySem.W.clsIn K cc3=some dq3)
  (q3a:PySem.W.findIn K (.ref cc3) "__class__" = some (some (.builtin "object.__class__")))
  (q3o:PySem.W.mroIn K cc3 (.type "object")=some true)
  (q3v:PySem.W.kitOne K (.ref cc3) (.type "ValueError")=some true)
  (q3k1:PySem.W.kitOne K (.ref cc3) (.ref cc1)=some false)
  (q3k2:PySem.W.kitOne K (.ref cc3) (.ref cc2)=some false)
  (q3k3:PySem.W.kitOne K (.ref cc3) (.ref cc3)=some true)
  (q3k4:PySem.W.kitOne K (.ref cc3) (.ref cc4)=some false)
  (q3k5:PySem.W.kitOne K (.ref cc3) (.ref cc5)=some false)
  (q3k6:PySem.W.kitOne K (.ref cc3) (.ref cc6)=some false)
  (q3k7:PySem.W.kitOne K (.ref cc3) (.ref cc7)=some false)
  (q3k8:PySem.W.kitOne K (.ref cc3) (.ref cc8)=some false)
  (q3k9:PySem.W.kitOne K (.ref cc3) (.ref cc9)=some false)
  (q3k10:PySem.W.kitOne K (.ref cc3) (.ref cc10)=some false)
  (q3k11:PySem.W.kitOne K (.ref cc3) (.ref cc11)=some false)
  (q3k12:PySem.W.kitOne K (.ref cc3) (.ref cc12)=some false)
  (q3k13:PySem.W.kitOne K (.ref cc3) (.ref cc13)=some false)
  (q3k14:PySem.W.kitOne K (.ref cc3) (.ref cc14)=some false)
  (q3k15:PySem.W.kitOne K (.ref cc3) (.ref cc15)=some false)
  (q3k16:PySem.W.kitOne K (.ref cc3) (.ref cc16)=some false)
  (q3k17:PySem.W.kitOne K (.ref cc3) (.ref cc17)=some false)
  (q3k18:PySem.W.kitOne K (.ref cc3) (.ref cc18)=some false)
  (q3k19:PySem.W.kitOne K (.ref cc3) (.ref cc19)=some false)
  (q2x:PySem.W.excIn K cc2 Rx.mroV "ValueError.__new__" = true)
  (q2r:PySem.W.mroIn K cc2 (.ref cR)=some true)
  (q2g:PySem.W.findIn K (.ref cc2) "__getattribute__" = some (some (.builtin "BaseException.__getattribute__")))
  (q2h:PySem.W.findIn K (.ref cc2) "__getattr__" = some none)
  (q2b:PySem.W.mroIn K cc2 (.type "BaseException")=some true)
  {dq2:_} (q2c:PySem.W.clsIn K cc2=some dq2)
  (q2a:PySem.W.findIn K (.ref cc2) "__class__" = some (some (.builtin "object.__class__")))
  (q2o:PySem.W.mroIn K cc2 (.type "object")=some true)
  (q2v:PySem.W.kitOne K (.ref cc2) (.type "ValueError")=some true)
  (q2k1:PySem.W.kitOne K (.ref cc2) (.ref cc1)=some false)
  (q2k2:PySem.W.kitOne K (.ref cc2) (.ref cc2)=some true)
  (q2k3:PySem.W.kitOne K (.ref cc2) (.ref cc3)=some false)
  (q2k4:PySem.W.kitOne K (.ref cc2) (.ref cc4)=some false)
  (q2k5:PySem.W.kitOne K (.ref cc2) (.ref cc5)=some false)
  (q2k6:PySem.W.kitOne K (.ref cc2) (.ref cc6)=some false)
  (q2k7:PySem.W.kitOne K (.ref cc2) (.ref cc7)=some false)
  (q2k8:PySem.W.kitOne K (.ref cc2) (.ref cc8)=some false)
  (q2k9:PySem.W.kitOne K (.ref cc2) (.ref cc9)=some false)
  (q2k10:PySem.W.kitOne K (.ref cc2) (.ref cc10)=some false)
  (q2k11:PySem.W.kitOne K (.ref cc2) (.ref cc11)=some false)
  (q2k12:PySem.W.kitOne K (.ref cc2) (.ref cc12)=some false)
  (q2k13:PySem.W.kitOne K (.ref cc2) (.ref cc13)=some false)
  (q2k14:PySem.W.kitOne K (.ref cc2) (.ref cc14)=some false)
  (q2k15:PySem.W.kitOne K (.ref cc2) (.ref cc15)=some false)
  (q2k16:PySem.W.kitOne K (.ref cc2) (.ref cc16)=some false)
  (q2k17:PySem.W.kitOne K (.ref cc2) (.ref cc17)=some false)
  (q2k18:PySem.W.kitOne K (.ref cc2) (.ref cc18)=some false)
  (q2k19:PySem.W.kitOne K (.ref cc2) (.ref cc19)=some false)
  (q4x:PySem.W.excIn K cc4 Rx.mroV "ValueError.__new__" = true)
  (q4r:PySem.W.mroIn K cc4 (.ref cR)=some true)
  (q4g:PySem.W.findIn K (.ref cc4) "__getattribute__" = some (some (.builtin "BaseException.__getattribute__")))
  (q4h:PySem.W.findIn K (.ref cc4) "__getattr__" = some none)
  (q4b:PySem.W.mroIn K cc4 (.type "BaseException")=some true)
  {dq4:_} (q4c:PySem.W.clsIn K cc4=some dq4)
  (q4a:PySem.W.findIn K (.ref cc4) "__class__" = some (some (.builtin "object.__class__")))
  (q4o:PySem.W.mroIn K cc4 (.type "object")=some true)
  (q4v:PySem.W.kitOne K (.ref cc4) (.type "ValueError")=some true)
  (q4k1:PySem.W.kitOne K (.ref cc4) (.ref cc1)=some false)
  (q4k2:PySem.W.kitOne K (.ref cc4) (.ref cc2)=some false)
  (q4k3:PySem.W.kitOne K (.ref cc4) (.ref cc3)=some false)
  (q4k4:PySem.W.kitOne K (.ref cc4) (.ref cc4)=some true)
  (q4k5:PySem.W.kitOne K (.ref cc4) (.ref cc5)=some false)
  (q4k6:PySem.W.kitOne K (.ref cc4) (.ref cc6)=some false)
  (q4k7:PySem.W.kitOne K (.ref cc4) (.ref cc7)=some false)
  (q4k8:PySem.W.kitOne K (.ref cc4) (.ref cc8)=some false)
  (q4k9:PySem.W.kitOne K (.ref cc4) (.ref cc9)=some false)
  (q4k10:PySem.W.kitOne K (.ref cc4) (.ref cc10)=some false)
  (q4k11:PySem.W.kitOne K (.ref cc4) (.ref cc11)=some false)
  (q4k12:PySem.W.kitOne K (.ref cc4) (.ref cc12)=some false)
  (q4k13:PySem.W.kitOne K (.ref cc4) (.ref cc13)=some false)
  (q4k14:PySem.W.kitOne K (.ref cc4) (.ref cc14)=some false)
  (q4k15:PySem.W.kitOne K (.ref cc4) (.ref cc15)=some false)
  (q4k16:PySem.W.kitOne K (.ref cc4) (.ref cc16)=some false)
  (q4k17:PySem.W.kitOne K (.ref cc4) (.ref cc17)=some false)
  (q4k18:PySem.W.kitOne K (.ref cc4) (.ref cc18)=some false)
  (q4k19:PySem.W.kitOne K (.ref cc4) (.ref cc19)=some false)
  (q5x:PySem.W.excIn K cc5 Rx.mroV "ValueError.__new__" = true)
  (q5r:PySem.W.mroIn K cc5 (.ref cR)=some true)
  (q5g:PySem.W.findIn K (.ref cc5) "__getattribute__" = some (some (.builtin "BaseException.__getattribute__")))
  (q5h:PySem.W.findIn K (.ref cc5) "__getattr__" = some none)
  (q5b:PySem.W.mroIn K cc5 (.type "BaseException")=some true)
  {dq5:_} (q5c:PySem.W.clsIn K cc5=some dq5)
  (q5a:PySem.W.findIn K (.ref cc5) "__class__" = some (some (.builtin "object.__class__")))
  (q5o:PySem.W.mroIn K cc5 (.type "object")=some true)
  (q5v:PySem.W.kitOne K (.ref cc5) (.type "ValueError")=some true)
  (q5k1:PySem.W.kitOne K (.ref cc5) (.ref cc1)=some false)
  (q5k2:PySem.W.kitOne K (.ref cc5) (.ref cc2)=some false)
  (q5k3:PySem.W.kitOne K (.ref cc5) (.ref cc3)=some false)
  (q5k4:PySem.W.kitOne K (.ref cc5) (.ref cc4)=some false)
  (q5k5:PySem.W.kitOne K (.ref cc5) (.ref cc5)=some true)
  (q5k6:PySem.W.kitOne K (.ref cc5) (.ref cc6)=some false)
  (q5k7:PySem.W.kitOne K (.ref cc5) (.ref cc7)=some false)
  (q5k8:PySem.W.kitOne K (.ref cc5) (.ref cc8)=some false)
  (q5k9:PySem.W.kitOne K (.ref cc5) (.ref cc9)=some false)
  (q5k10:PySem.W.kitOne K (.ref cc5) (.ref cc10)=some false)
  (q5k11:PySem.W.kitOne K (.ref cc5) (.ref cc11)=some false)
  (q5k12:PySem.W.kitOne K (.ref cc5) (.ref cc12)=some false)
  (q5k13:PySem.W.kitOne K (.ref cc5) (.ref cc13)=some false)
  (q5k14:PySem.W.kitOne K (.ref cc5) (.ref cc14)=some false)
  (q5k15:PySem.W.kitOne K (.ref cc5) (.ref cc15)=some false)
  (q5k16:PySem.W.kitOne K (.ref cc5) (.ref cc16)=some false)
  (q5k17:PySem.W.kitOne K (.ref cc5) (.ref cc17)=some false)
  (q5k18:PySem.W.kitOne K (.ref cc5) (.ref cc18)=some false)
  (q5k19:PySem.W.kitOne K (.ref cc5) (.ref cc19)=some false)
  :
  ∃fd:Qy,(∀(s:Shared)(v:Value),Qdi s fd ⟨[v],[]⟩ [("_law_script",v)])/\∀base:JM,K.In base->base.Ns mainGlobals mg->PySem.W.CodeHd base tc tP->Qa0 base mg->FnOk l.prog w K mg base CX0 9 fa fd ["_law_script"] (spT tP Qm4 (Dl.Qds K)):=by
 have e:=hfa.symm.trans (PySem.W.mg_of X G a33);cases e;have T:=(⟨(PySem.W.mg_none_of X G z1),(PySem.W.mg_none_of X G z2),(PySem.W.mg_none_of X G z3),(PySem.W.mg_none_of X G z4),(PySem.W.mg_none_of X G z5),(PySem.W.mg_none_of X G z6),(PySem.W.mg_none_of X G z7),(PySem.W.mg_none_of X G z8),(PySem.W.mg_none_of X G z9),(PySem.W.mg_none_of X G z10),(PySem.W.mg_none_of X G z11),(PySem.W.mg_none_of X G z12),(PySem.W.mg_none_of X G z13),(PySem.W.mg_none_of X G z14),(PySem.W.mg_none_of X G z15),(PySem.W.mg_none_of X G z16),(PySem.W.mg_none_of X G z17),(PySem.W.mg_none_of X G z18),(PySem.W.mg_none_of X G z19)⟩:GlbA mg);have F1:=J4 (st:=Qdu) l1 c1 k1;have b1:=F1.binds (ps:=["thing"]) λ_ _ _ _ _ _ us hl=>match us,hl with | [_],_=>rfl
 have m1:=PySem.W.mg_of X G a1;have F2:=J4 (st:=QbQ) l2 c2 k2;have b2:=F2.binds (ps:=["thing", "least", "most"]) λ_ _ _ _ _ _ us hl=>match us,hl with | [_,_,_],_=>rfl
 have m2:=PySem.W.mg_of X G a2;have F3:=J4 (st:=QbT) l3 c3 k3;have b3:=F3.binds (ps:=["things"]) λ_ _ _ _ _ _ us hl=>match us,hl with | [_],_=>rfl
 have m3:=PySem.W.mg_of X G a3;have F4:=J4 (st:=Qdx) l4 c4 k4;have b4:=F4.binds (ps:=["things"]) λ_ _ _ _ _ _ us hl=>match us,hl with | [_],_=>rfl
 have m4:=PySem.W.mg_of X G a4;have F5:=J4 (st:=QdC) l5 c5 k5;have b5:=F5.binds (ps:=["high", "wide", "thing"]) λ_ _ _ _ _ _ us hl=>match us,hl with | [_,_,_],_=>rfl
 have m5:=PySem.W.mg_of X G a5;have F6:=J4 (st:=Qdw) l6 c6 k6;have b6:=F6.binds (ps:=["high", "wide", "thing"]) λ_ _ _ _ _ _ us hl=>match us,hl with | [_,_,_],_=>rfl
 have m6:=PySem.W.mg_of X G a6;have F7:=J4 (st:=QbR) l7 c7 k7;have b7:=F7.binds (ps:=["thing"]) λ_ _ _ _ _ _ us hl=>match us,hl with | [_],_=>rfl
 have m7:=PySem.W.mg_of X G a7;have F8:=J4 (st:=QhE) l8 c8 k8;have b8:=F8.binds (ps:=["stairs"]) λ_ _ _ _ _ _ us hl=>match us,hl with | [_],_=>rfl
 have m8:=PySem.W.mg_of X G a8;have F9:=J4 (st:=QbS) l9 c9 k9;have b9:=F9.binds (ps:=["stairs"]) λ_ _ _ _ _ _ us hl=>match us,hl with | [_],_=>rfl
 have m9:=PySem.W.mg_of X G a9;have F10:=J4 (st:=QdA) l10 c10 k10;have b10:=F10.binds (ps:=["stairs"]) λ_ _ _ _ _ _ us hl=>match us,hl with | [_],_=>rfl
 have m10:=PySem.W.mg_of X G a10;have F11:=J4 (st:=QhH) l11 c11 k11;have b11:=F11.binds (ps:=["one", "other"]) λ_ _ _ _ _ _ us hl=>match us,hl with | [_,_],_=>rfl
 have m11:=PySem.W.mg_of X G a11;have F12:=J4 (st:=Qdv) l12 c12 k12;have b12:=F12.binds (ps:=["board", "thing"]) λ_ _ _ _ _ _ us hl=>match us,hl with | [_,_],_=>rfl
 have m12:=PySem.W.mg_of X G a12;have F13:=J4 (st:=QdE) l13 c13 k13;have b13:=F13.binds (ps:=["cells"]) λ_ _ _ _ _ _ us hl=>match us,hl with | [_],_=>rfl
 have m13:=PySem.W.mg_of X G a13;have F14:=J4 (st:=QdB) l14 c14 k14;have b14:=F14.binds (ps:=["board", "size"]) λ_ _ _ _ _ _ us hl=>match us,hl with | [_,_],_=>rfl
 have m14:=PySem.W.mg_of X G a14;have F15:=J4 (st:=sFol) l15 c15 k15;have b15:=F15.binds (ps:=["board", "start"]) λ_ _ _ _ _ _ us hl=>match us,hl with | [_,_],_=>rfl
 have m15:=PySem.W.mg_of X G a15;have F16:=J4 (st:=QhC) l16 c16 k16;have b16:=F16.binds (ps:=["start"]) λ_ _ _ _ _ _ us hl=>match us,hl with | [_],_=>rfl
 have m16:=PySem.W.mg_of X G a16;have F17:=J4 (st:=Qdz) l17 c17 k17;have b17:=F17.binds (ps:=["stairs", "stand"]) λ_ _ _ _ _ _ us hl=>match us,hl with | [_,_],_=>rfl
 have m17:=PySem.W.mg_of X G a17;have F18:=J4 (st:=QdD) l18 c18 k18;have b18:=F18.binds (ps:=["board", "stand"]) λ_ _ _ _ _ _ us hl=>match us,hl with | [_,_],_=>rfl
 have m18:=PySem.W.mg_of X G a18;have F19:=J4 (st:=QbU) l19 c19 k19;have b19:=F19.binds (ps:=["stand", "cell"]) λ_ _ _ _ _ _ us hl=>match us,hl with | [_,_],_=>rfl
 have m19:=PySem.W.mg_of X G a19;have F20:=J4 (st:=sByW) l20 c20 k20;have b20:=F20.binds (ps:=["stairs", "size"]) λ_ _ _ _ _ _ us hl=>match us,hl with | [_,_],_=>rfl
 have m20:=PySem.W.mg_of X G a20;have F21:=J4 (st:=Qdy) l21 c21 k21;have b21:=F21.binds (ps:=["stairs", "size"]) λ_ _ _ _ _ _ us hl=>match us,hl with | [_,_],_=>rfl
 have m21:=PySem.W.mg_of X G a21;have F22:=J4 (st:=sWt) l22 c22 k22;have b22:=F22.binds (ps:=["board", "stand"]) λ_ _ _ _ _ _ us hl=>match us,hl with | [_,_],_=>rfl
 have m22:=PySem.W.mg_of X G a22;have F23:=J4 (st:=QhG) l23 c23 k23;have b23:=F23.binds (ps:=["stairs", "number"]) λ_ _ _ _ _ _ us hl=>match us,hl with | [_,_],_=>rfl
 have m23:=PySem.W.mg_of X G a23;have F24:=J4 (st:=QhF) l24 c24 k24;have b24:=F24.binds (ps:=["stairs"]) λ_ _ _ _ _ _ us hl=>match us,hl with | [_],_=>rfl
 have m24:=PySem.W.mg_of X G a24;have F25:=J4 (st:=QhD) l25 c25 k25;have b25:=F25.binds (ps:=["stairs", "size"]) λ_ _ _ _ _ _ us hl=>match us,hl with | [_,_],_=>rfl
 have m25:=PySem.W.mg_of X G a25;have F26:=J4 (st:=Qb4) l26 c26 k26;have b26:=F26.binds (ps:=["_law_script", "_law_k"]) λ_ _ _ _ _ _ us hl=>match us,hl with | [_,_],_=>rfl
 have m26:=PySem.W.mg_of X G a26;have F27:=J4 (st:=lPot) l27 c27 k27;have b27:=F27.binds (ps:=["_law_cell"]) λ_ _ _ _ _ _ us hl=>match us,hl with | [_],_=>rfl
 have m27:=PySem.W.mg_of X G a27;have F28:=J4 (st:=QhX) l28 c28 k28;have b28:=F28.binds (ps:=["_law_pot_here", "_law_far"]) λ_ _ _ _ _ _ us hl=>match us,hl with | [_,_],_=>rfl
 have m28:=PySem.W.mg_of X G a28;have F29:=J4 (st:=Qb3) l29 c29 k29;have b29:=F29.binds (ps:=["_law_pot_here", "_law_columns", "_law_most"]) λ_ _ _ _ _ _ us hl=>match us,hl with | [_,_,_],_=>rfl
 have m29:=PySem.W.mg_of X G a29;have F30:=J4 (st:=QhZ) l30 c30 k30;have b30:=F30.binds (ps:=["_law_e"]) λ_ _ _ _ _ _ us hl=>match us,hl with | [_],_=>rfl
 have m30:=PySem.W.mg_of X G a30;have F31:=J4 (st:=QhW) l31 c31 k31;have b31:=F31.binds (ps:=["_law_way", "_law_stairs_here", "_law_thing"]) λ_ _ _ _ _ _ us hl=>match us,hl with | [_,_,_],_=>rfl
 have m31:=PySem.W.mg_of X G a31;have F32:=J4 (st:=QhY) l32 c32 k32;have b32:=F32.binds (ps:=["_law_pot_here", "_law_stairs_here"]) λ_ _ _ _ _ _ us hl=>match us,hl with | [_,_],_=>rfl
 have m32:=PySem.W.mg_of X G a32;have F33:=J4 (st:=sLaw) l33 c33 k33;refine⟨PySem.W.fnOf "law" "law" (Js sLaw) (Jd sLaw) (Qk sLaw) .none kV33 dc33 pm33 an33 cd33 ct33,λs v=>.of_eq rfl,λbase _ _ hC hB=>?_⟩;have G1:FnOk l.prog w K mg base CX0 1 f1 _ ["thing"] (Dl.JF false Dl.QiL):=QmB F1 T ;have G2:FnOk l.prog w K mg base CX0 2 f2 _ ["thing", "least", "most"] (Dl.JF false QbM):=QjM F2 T m1 G1 b1 k1;have G3:FnOk l.prog w K mg base CX0 1 f3 _ ["things"] (Dl.JF false Qf3):=QjQ F3 T ;have G4:FnOk l.prog w K mg base CX0 1 f4 _ ["things"] (Dl.JF false Qj0):=QmF F4 T ;have G6:FnOk l.prog w K mg base CX0 3 f6 _ ["high", "wide", "thing"] (Dl.JF false Qjw):=QmE F6 T m2 G2 b2 k2;have G5:FnOk l.prog w K mg base CX0 4 f5 _ ["high", "wide", "thing"] (Dl.JF false QkQ):=QmL F5 T m6 G6 b6 k6 m3 G3 b3 k3;have G13:FnOk l.prog w K mg base CX0 1 f13 _ ["cells"] (Dl.JF false Qk8):=QmM F13 T ;have G12:FnOk l.prog w K mg base CX0 5 f12 _ ["board", "thing"] (Dl.JF false Qi2):=QmC F12 T m5 G5 b5 k5 m13 G13 b13 k13;have G7:FnOk l.prog w K mg base CX0 3 f7 _ ["thing"] (Dl.JF false QfY):=QjO ⟨_,PySem.W.mg_of X G aA⟩ F7 T m2 G2 b2 k2 m4 G4 b4 k4;have G8:FnOk l.prog w K mg base (Rx.CXE l.prog w) 4 f8 _ ["stairs"] (Dl.JF false (Qjh cc9)):=QmD F8 T m7 G7 b7 k7 (PySem.W.mg_of X G e9) q9x;have G9:FnOk l.prog w K mg base (Rx.CXE l.prog w) 5 f9 _ ["stairs"] (Dl.JF false (sbX cc9)):=QjP F9 T m8 G8 b8 k8;have G19:FnOk l.prog w K mg base CX0 1 f19 _ ["stand", "cell"] (Dl.JF false Qgh):=QjR F19 T ;have G18:FnOk l.prog w K mg base CX0 2 f18 _ ["board", "stand"] (Dl.JF false Qhg):=QmK F18 T m19 G19 b19 k19;have G17:FnOk l.prog w K mg base (Rx.CXE l.prog w) 7 f17 _ ["stairs", "stand"] (Dl.JF false (Qm0 cc9 cc5)):=QmI F17 T m9 G9 b9 k9 m12 G12 b12 k12 m18 G18 b18 k18 (PySem.W.mg_of X G e5) q5x;have G16:FnOk l.prog w K mg base CX0 1 f16 _ ["start"] (Dl.JF false QoL):=QpK F16 T ;have G15:FnOk l.prog w K mg base CX0 2 f15 _ ["board", "start"] (Dl.JF false QvZ):=Qti F15 T m16 G16 b16 k16;have G14:FnOk l.prog w K mg base CX0 3 f14 _ ["board", "size"] (Dl.JF true evD):=QvI F14 T m15 G15 b15 k15;have G22:FnOk l.prog w K mg base CX0 3 f22 _ ["board", "stand"] (Dl.JF false wtD):=QjN F22 T m18 G18 b18 k18;have G24:FnOk l.prog w K mg base (Rx.CXE l.prog w) 5 f24 _ ["stairs"] (Dl.JF false (Qji cc9 cc3)):=QpM ⟨_,PySem.W.mg_of X G aB⟩ F24 T m8 G8 b8 k8 (PySem.W.mg_of X G e3) q3x;have G25:FnOk l.prog w K mg base (Rx.CXE l.prog w) 3 f25 _ ["stairs", "size"] (Dl.JF false (QlR cc2)):=QpL F25 T m2 G2 b2 k2 (PySem.W.mg_of X G e2) q2x;have G20:FnOk l.prog w K mg base (Rx.CXE l.prog w) 6 f20 _ ["stairs", "size"] (Dl.JF true (QuC cc9 cc3 cc2)):=Qtj F20 T m24 G24 b24 k24 m25 G25 b25 k25 m9 G9 b9 k9 m14 G14 b14 k14 m22 G22 b22 k22;have G21:FnOk l.prog w K mg base (Rx.CXE l.prog w) 6 f21 _ ["stairs", "size"] (spT tP Qm4 (Dl.JF false (Qg1 cc9 cc3 cc2))):=QmH (PySem.W.law_code X G tT (PySem.W.mg_of X G a21) (X _ _ l21) rfl) hC hB F21 T m24 G24 b24 k24 m25 G25 b25 k25 m9 G9 b9 k9 m14 G14 b14 k14 m22 G22 b22 k22;have G10:FnOk l.prog w K mg base (Rx.CXE l.prog w) 5 f10 _ ["stairs"] (Dl.JF true Qks):=QmJ F10 T m8 G8 b8 k8;have G11:FnOk l.prog w K mg base CX0 1 f11 _ ["one", "other"] (Dl.JF true Qp0):=QpO F11 T ;have G23:FnOk l.prog w K mg base (Rx.CXE l.prog w) 6 f23 _ ["stairs", "number"] (Dl.JF true (QmA cc9 cc3 cc4)):=QpN ⟨_,PySem.W.mg_of X G aC⟩ F23 T m24 G24 b24 k24 m2 G2 b2 k2 m10 G10 b10 k10 m11 G11 b11 k11 (PySem.W.mg_of X G e4) q4x;have G26:FnOk l.prog w K mg base CX0 1 f26 _ ["_law_script", "_law_k"] (Qbp K):=QjS F26 T ;have G27:FnOk l.prog w K mg base CX0 1 f27 _ ["_law_cell"] (Dl.JF true Dl.Qvx):=(Qtg F27 T).imp λ_ _ _ _ h=>Dl.Qvw h
 have G28:FnOk l.prog w K mg base CX0 1 f28 _ ["_law_pot_here", "_law_far"] (Dl.JF true Dl.QiV):=(QpJ F28 T).imp λ_ _ _ _ h=>Dl.Qsb h
 have G29:FnOk l.prog w K mg base CX0 2 f29 _ ["_law_pot_here", "_law_columns", "_law_most"] (Dl.JF false Qeu):=QhP F29 T m28 G28 b28 k28;have G30:Rx.FnM l.prog w K mg base 1 f30 _ ["_law_e"] (Qeg K [cc1,cc2,cc3,cc4,cc5,cc6,cc7,cc8,cc9,cc10,cc11,cc12,cc13,cc14,cc15,cc16,cc17,cc18,cc19]):=QpP F30 T (PySem.W.mg_none_of X G z20) (PySem.W.mg_of X G e1) (PySem.W.mg_of X G e2) (PySem.W.mg_of X G e3) (PySem.W.mg_of X G e4) (PySem.W.mg_of X G e5) (PySem.W.mg_of X G e6) (PySem.W.mg_of X G e7) (PySem.W.mg_of X G e8) (PySem.W.mg_of X G e9) (PySem.W.mg_of X G e10) (PySem.W.mg_of X G e11) (PySem.W.mg_of X G e12) (PySem.W.mg_of X G e13) (PySem.W.mg_of X G e14) (PySem.W.mg_of X G e15) (PySem.W.mg_of X G e16) (PySem.W.mg_of X G e17) (PySem.W.mg_of X G e18) (PySem.W.mg_of X G e19);have G31:FnOk l.prog w K mg base CX0 8 f31 _ ["_law_way", "_law_stairs_here", "_law_thing"] (spT tP Qm4 (Dl.JF false QfV)):=QpI F31 T m20 G20 b20 k20 m21 G21 b21 k21 m23 G23 b23 k23 m17 G17 b17 k17 m30 G30 b30 k30 (PySem.W.mg_of X G eR) (⟨⟨r1,(by rw[r2];rfl),r3,q9r⟩,[false,false,false,false,false,false,false,false,true,false,false,false,false,false,false,false,false,false,false],8,⟨q9g,q9h,q9b,(by rw[q9c];rfl),q9a,u1,u2,q9o⟩,(.cons q9k1 (.cons q9k2 (.cons q9k3 (.cons q9k4 (.cons q9k5 (.cons q9k6 (.cons q9k7 (.cons q9k8 (.cons q9k9 (.cons q9k10 (.cons q9k11 (.cons q9k12 (.cons q9k13 (.cons q9k14 (.cons q9k15 (.cons q9k16 (.cons q9k17 (.cons q9k18 (.cons q9k19 .nil))))))))))))))))))),q9v,rfl,rfl,(by decide),rfl⟩   : KOk2 K [cc1,cc2,cc3,cc4,cc5,cc6,cc7,cc8,cc9,cc10,cc11,cc12,cc13,cc14,cc15,cc16,cc17,cc18,cc19] cR cc9 "stairs") (⟨⟨r1,(by rw[r2];rfl),r3,q3r⟩,[false,false,true,false,false,false,false,false,false,false,false,false,false,false,false,false,false,false,false],2,⟨q3g,q3h,q3b,(by rw[q3c];rfl),q3a,u1,u2,q3o⟩,(.cons q3k1 (.cons q3k2 (.cons q3k3 (.cons q3k4 (.cons q3k5 (.cons q3k6 (.cons q3k7 (.cons q3k8 (.cons q3k9 (.cons q3k10 (.cons q3k11 (.cons q3k12 (.cons q3k13 (.cons q3k14 (.cons q3k15 (.cons q3k16 (.cons q3k17 (.cons q3k18 (.cons q3k19 .nil))))))))))))))))))),q3v,rfl,rfl,(by decide),rfl⟩   : KOk2 K [cc1,cc2,cc3,cc4,cc5,cc6,cc7,cc8,cc9,cc10,cc11,cc12,cc13,cc14,cc15,cc16,cc17,cc18,cc19] cR cc3 "many") (⟨⟨r1,(by rw[r2];rfl),r3,q2r⟩,[false,true,false,false,false,false,false,false,false,false,false,false,false,false,false,false,false,false,false],1,⟨q2g,q2h,q2b,(by rw[q2c];rfl),q2a,u1,u2,q2o⟩,(.cons q2k1 (.cons q2k2 (.cons q2k3 (.cons q2k4 (.cons q2k5 (.cons q2k6 (.cons q2k7 (.cons q2k8 (.cons q2k9 (.cons q2k10 (.cons q2k11 (.cons q2k12 (.cons q2k13 (.cons q2k14 (.cons q2k15 (.cons q2k16 (.cons q2k17 (.cons q2k18 (.cons q2k19 .nil))))))))))))))))))),q2v,rfl,rfl,(by decide),rfl⟩   : KOk2 K [cc1,cc2,cc3,cc4,cc5,cc6,cc7,cc8,cc9,cc10,cc11,cc12,cc13,cc14,cc15,cc16,cc17,cc18,cc19] cR cc2 "size") (⟨⟨r1,(by rw[r2];rfl),r3,q4r⟩,[false,false,false,true,false,false,false,false,false,false,false,false,false,false,false,false,false,false,false],3,⟨q4g,q4h,q4b,(by rw[q4c];rfl),q4a,u1,u2,q4o⟩,(.cons q4k1 (.cons q4k2 (.cons q4k3 (.cons q4k4 (.cons q4k5 (.cons q4k6 (.cons q4k7 (.cons q4k8 (.cons q4k9 (.cons q4k10 (.cons q4k11 (.cons q4k12 (.cons q4k13 (.cons q4k14 (.cons q4k15 (.cons q4k16 (.cons q4k17 (.cons q4k18 (.cons q4k19 .nil))))))))))))))))))),q4v,rfl,rfl,(by decide),rfl⟩   : KOk2 K [cc1,cc2,cc3,cc4,cc5,cc6,cc7,cc8,cc9,cc10,cc11,cc12,cc13,cc14,cc15,cc16,cc17,cc18,cc19] cR cc4 "number") (⟨⟨r1,(by rw[r2];rfl),r3,q5r⟩,[false,false,false,false,true,false,false,false,false,false,false,false,false,false,false,false,false,false,false],4,⟨q5g,q5h,q5b,(by rw[q5c];rfl),q5a,u1,u2,q5o⟩,(.cons q5k1 (.cons q5k2 (.cons q5k3 (.cons q5k4 (.cons q5k5 (.cons q5k6 (.cons q5k7 (.cons q5k8 (.cons q5k9 (.cons q5k10 (.cons q5k11 (.cons q5k12 (.cons q5k13 (.cons q5k14 (.cons q5k15 (.cons q5k16 (.cons q5k17 (.cons q5k18 (.cons q5k19 .nil))))))))))))))))))),q5v,rfl,rfl,(by decide),rfl⟩   : KOk2 K [cc1,cc2,cc3,cc4,cc5,cc6,cc7,cc8,cc9,cc10,cc11,cc12,cc13,cc14,cc15,cc16,cc17,cc18,cc19] cR cc5 "stand");have G32:FnOk l.prog w K mg base CX0 2 f32 _ ["_law_pot_here", "_law_stairs_here"] (Dl.JF false Qge):=QmG F32 T m28 G28 b28 k28;exact Qth F33 T m26 G26 b26 k26 m27 G27 b27 k27 m28 G28 b28 k28 m29 G29 b29 k29 m31 G31 b31 k31 m32 G32 b32 k32
theorem QwW{tc tP:Addr}{l:PySem.W.OpenLaw}{q:QD}{loose:List Str}{XP:(Str->Option Value)->JM->Prop}{YP:Je->JM->Prop}{d:DefRec}{K:Params->PySem.W.Frag}(hn:l.most=some 63)(hdf:d.params.defaults=[])
  (hY:∀(w:Je)(h:JM),YP w h->(K w.params).In h)(hTb:∀(w:Je)(h:JM),YP w h->h.get? tP=some (PySem.W.tabObj #[]))
  (hno:∀w:Je,PySem.W.noTabs (K w.params)=true)(hCd:∀w:Je,PySem.W.codeHdIn (K w.params) tc tP=true)
  (F:∀(w:Je)(mg:Str->Option Value)(fa:Addr)(h:JM),(K w.params).In h->h.Ns mainGlobals mg->mg d.name=some (.ref fa) ->
   ∃fd:Qy,(∀(s:Shared)(u:Value),Qdi s fd ⟨[u],[]⟩ [("_law_script",u)])/\∀base:JM,(K w.params).In base->base.Ns mainGlobals mg->PySem.W.CodeHd base tc tP->Qa0 base mg->FnOk l.prog w (K w.params) mg base CX0 9 fa fd ["_law_script"] (spT tP Qm4 (Dl.Qds (K w.params)))) :
  PySem.W.WalkO q loose XP YP l.row.toRowW d [] (λf vs=>PySem.call f vs):=
 L2.Qlx (n:=63) (k:=9) (x := "_law_script") (CX:=λ_=>CX0) (sp:=λw=>(Dl.Qds (K w.params))) hn (by decide) hdf ⟨rfl,by decide,by decide⟩ hY F hno hTb hCd (λ_ _ a ns hl hS=>⟨a,ns,rfl,hS,hl,λ_=>rfl⟩) λ_ _ _ _ _ z=>z
end Rk
open PySem.W
set_option maxRecDepth 100000 in
set_option maxHeartbeats 0 in
theorem PySem.Challenge.cw_rooklands_k74_no_weights_holds : PySem.Challenge.rw_rooklands_k74_no_weights.Holds := by
 w_on;o_law;k_head;(case hw=>w_witness2)
 k_fill
 refine Rk.QwW (l:=PySem.Challenge.rw_rooklands_k74_no_weights) (tc:=377) (tP:=373) rfl rfl (λw h Y=>PySem.W.km_in_of Y) (λw h Y=>PySem.W.km_tabs_of Y _ (List.Mem.head _)) ?hNoT ?hCdT ?F
 case hNoT=>intro w;kernel_rfl
 case hCdT=>intro w;kernel_rfl
 case F=>
  intro w mg fa h KX G hmg;refine' Rk.Qt8 KX G hmg ?a1 ?l1 ?c1 ?k1 ?a2 ?l2 ?c2 ?k2 ?a3 ?l3 ?c3 ?k3 ?a4 ?l4 ?c4 ?k4 ?a5 ?l5 ?c5 ?k5 ?a6 ?l6 ?c6 ?k6 ?a7 ?l7 ?c7 ?k7 ?a8 ?l8 ?c8 ?k8 ?a9 ?l9 ?c9 ?k9 ?a10 ?l10 ?c10 ?k10 ?a11 ?l11 ?c11 ?k11 ?a12 ?l12 ?c12 ?k12 ?a13 ?l13 ?c13 ?k13 ?a14 ?l14 ?c14 ?k14 ?a15 ?l15 ?c15 ?k15 ?a16 ?l16 ?c16 ?k16 ?a17 ?l17 ?c17 ?k17 ?a18 ?l18 ?c18 ?k18 ?a19 ?l19 ?c19 ?k19 ?a20 ?l20 ?c20 ?k20 ?a21 ?l21 ?c21 ?k21 ?a22 ?l22 ?c22 ?k22 ?a23 ?l23 ?c23 ?k23 ?a24 ?l24 ?c24 ?k24 ?a25 ?l25 ?c25 ?k25 ?a26 ?l26 ?c26 ?k26 ?a27 ?l27 ?c27 ?k27 ?a28 ?l28 ?c28 ?k28 ?a29 ?l29 ?c29 ?k29 ?a30 ?l30 ?c30 ?k30 ?a31 ?l31 ?c31 ?k31 ?a32 ?l32 ?c32 ?k32 ?a33 ?l33 ?c33 ?k33 ?z1 ?z2 ?z3 ?z4 ?z5 ?z6 ?z7 ?z8 ?z9 ?z10 ?z11 ?z12 ?z13 ?z14 ?z15 ?z16 ?z17 ?z18 ?z19 ?z20 ?aA ?aB ?aC ?tT ?e1 ?e2 ?e3 ?e4 ?e5 ?e6 ?e7 ?e8 ?e9 ?e10 ?e11 ?e12 ?e13 ?e14 ?e15 ?e16 ?e17 ?e18 ?e19 ?eR ?r1 ?r2 ?r3 ?u1 ?u2 ?q9x ?q9r ?q9g ?q9h ?q9b ?q9c ?q9a ?q9o ?q9v ?q9k1 ?q9k2 ?q9k3 ?q9k4 ?q9k5 ?q9k6 ?q9k7 ?q9k8 ?q9k9 ?q9k10 ?q9k11 ?q9k12 ?q9k13 ?q9k14 ?q9k15 ?q9k16 ?q9k17 ?q9k18 ?q9k19 ?q3x ?q3r ?q3g ?q3h ?q3b ?q3c ?q3a ?q3o ?q3v ?q3k1 ?q3k2 ?q3k3 ?q3k4 ?q3k5 ?q3k6 ?q3k7 ?q3k8 ?q3k9 ?q3k10 ?q3k11 ?q3k12 ?q3k13 ?q3k14 ?q3k15 ?q3k16 ?q3k17 ?q3k18 ?q3k19 ?q2x ?q2r ?q2g ?q2h ?q2b ?q2c ?q2a ?q2o ?q2v ?q2k1 ?q2k2 ?q2k3 ?q2k4 ?q2k5 ?q2k6 ?q2k7 ?q2k8 ?q2k9 ?q2k10 ?q2k11 ?q2k12 ?q2k13 ?q2k14 ?q2k15 ?q2k16 ?q2k17 ?q2k18 ?q2k19 ?q4x ?q4r ?q4g ?q4h ?q4b ?q4c ?q4a ?q4o ?q4v ?q4k1 ?q4k2 ?q4k3 ?q4k4 ?q4k5 ?q4k6 ?q4k7 ?q4k8 ?q4k9 ?q4k10 ?q4k11 ?q4k12 ?q4k13 ?q4k14 ?q4k15 ?q4k16 ?q4k17 ?q4k18 ?q4k19 ?q5x ?q5r ?q5g ?q5h ?q5b ?q5c ?q5a ?q5o ?q5v ?q5k1 ?q5k2 ?q5k3 ?q5k4 ?q5k5 ?q5k6 ?q5k7 ?q5k8 ?q5k9 ?q5k10 ?q5k11 ?q5k12 ?q5k13 ?q5k14 ?q5k15 ?q5k16 ?q5k17 ?q5k18 ?q5k19
  (case a1=>k_is)
  (case l1=>k_is)
  (case c1=>k_is)
  (case k1=>k_is)
  (case a2=>k_is)
  (case l2=>k_is)
  (case c2=>k_is)
  (case k2=>k_is)
  (case a3=>k_is)
  (case l3=>k_is)
  (case c3=>k_is)
  (case k3=>k_is)
  (case a4=>k_is)
  (case l4=>k_is)
  (case c4=>k_is)
  (case k4=>k_is)
  (case a5=>k_is)
  (case l5=>k_is)
  (case c5=>k_is)
  (case k5=>k_is)
  (case a6=>k_is)
  (case l6=>k_is)
  (case c6=>k_is)
  (case k6=>k_is)
  (case a7=>k_is)
  (case l7=>k_is)
  (case c7=>k_is)
  (case k7=>k_is)
  (case a8=>k_is)
  (case l8=>k_is)
  (case c8=>k_is)
  (case k8=>k_is)
  (case a9=>k_is)
  (case l9=>k_is)
  (case c9=>k_is)
  (case k9=>k_is)
  (case a10=>k_is)
  (case l10=>k_is)
  (case c10=>k_is)
  (case k10=>k_is)
  (case a11=>k_is)
  (case l11=>k_is)
  (case c11=>k_is)
  (case k11=>k_is)
  (case a12=>k_is)
  (case l12=>k_is)
  (case c12=>k_is)
  (case k12=>k_is)
  (case a13=>k_is)
  (case l13=>k_is)
  (case c13=>k_is)
  (case k13=>k_is)
  (case a14=>k_is)
  (case l14=>k_is)
  (case c14=>k_is)
  (case k14=>k_is)
  (case a15=>k_is)
  (case l15=>k_is)
  (case c15=>k_is)
  (case k15=>k_is)
  (case a16=>k_is)
  (case l16=>k_is)
  (case c16=>k_is)
  (case k16=>k_is)
  (case a17=>k_is)
  (case l17=>k_is)
  (case c17=>k_is)
  (case k17=>k_is)
  (case a18=>k_is)
  (case l18=>k_is)
  (case c18=>k_is)
  (case k18=>k_is)
  (case a19=>k_is)
  (case l19=>k_is)
  (case c19=>k_is)
  (case k19=>k_is)
  (case a20=>k_is)
  (case l20=>k_is)
  (case c20=>k_is)
  (case k20=>k_is)
  (case a21=>k_is)
  (case l21=>k_is)
  (case c21=>k_is)
  (case k21=>k_is)
  (case a22=>k_is)
  (case l22=>k_is)
  (case c22=>k_is)
  (case k22=>k_is)
  (case a23=>k_is)
  (case l23=>k_is)
  (case c23=>k_is)
  (case k23=>k_is)
  (case a24=>k_is)
  (case l24=>k_is)
  (case c24=>k_is)
  (case k24=>k_is)
  (case a25=>k_is)
  (case l25=>k_is)
  (case c25=>k_is)
  (case k25=>k_is)
  (case a26=>k_is)
  (case l26=>k_is)
  (case c26=>k_is)
  (case k26=>k_is)
  (case a27=>k_is)
  (case l27=>k_is)
  (case c27=>k_is)
  (case k27=>k_is)
  (case a28=>k_is)
  (case l28=>k_is)
  (case c28=>k_is)
  (case k28=>k_is)
  (case a29=>k_is)
  (case l29=>k_is)
  (case c29=>k_is)
  (case k29=>k_is)
  (case a30=>k_is)
  (case l30=>k_is)
  (case c30=>k_is)
  (case k30=>k_is)
  (case a31=>k_is)
  (case l31=>k_is)
  (case c31=>k_is)
  (case k31=>k_is)
  (case a32=>k_is)
  (case l32=>k_is)
  (case c32=>k_is)
  (case k32=>k_is)
  (case a33=>k_is)
  (case l33=>k_is)
  (case c33=>k_is)
  (case k33=>k_is)
  (case z1=>k_is)
  (case z2=>k_is)
  (case z3=>k_is)
  (case z4=>k_is)
  (case z5=>k_is)
  (case z6=>k_is)
  (case z7=>k_is)
  (case z8=>k_is)
  (case z9=>k_is)
  (case z10=>k_is)
  (case z11=>k_is)
  (case z12=>k_is)
  (case z13=>k_is)
  (case z14=>k_is)
  (case z15=>k_is)
  (case z16=>k_is)
  (case z17=>k_is)
  (case z18=>k_is)
  (case z19=>k_is)
  (case z20=>k_is)
  (case aA=>k_is)
  (case aB=>k_is)
  (case aC=>k_is)
  (case tT=>kernel_rfl)
  (case e1=>k_is)
  (case e2=>k_is)
  (case e3=>k_is)
  (case e4=>k_is)
  (case e5=>k_is)
  (case e6=>k_is)
  (case e7=>k_is)
  (case e8=>k_is)
  (case e9=>k_is)
  (case e10=>k_is)
  (case e11=>k_is)
  (case e12=>k_is)
  (case e13=>k_is)
  (case e14=>k_is)
  (case e15=>k_is)
  (case e16=>k_is)
  (case e17=>k_is)
  (case e18=>k_is)
  (case e19=>k_is)
  (case eR=>k_is)
  (case r1=>k_is)
  (case r2=>k_is)
  (case r3=>k_is)
  (case u1=>k_is)
  (case u2=>k_is)
  (case q9x=>k_exc)
  (case q9r=>k_is)
  (case q9g=>k_is)
  (case q9h=>k_is)
  (case q9b=>k_is)
  (case q9c=>k_is)
  (case q9a=>k_is)
  (case q9o=>k_is)
  (case q9v=>kit_is)
  (case q9k1=>kit_is)
  (case q9k2=>kit_is)
  (case q9k3=>kit_is)
  (case q9k4=>kit_is)
  (case q9k5=>kit_is)
  (case q9k6=>kit_is)
  (case q9k7=>kit_is)
  (case q9k8=>kit_is)
  (case q9k9=>kit_is)
  (case q9k10=>kit_is)
  (case q9k11=>kit_is)
  (case q9k12=>kit_is)
  (case q9k13=>kit_is)
  (case q9k14=>kit_is)
  (case q9k15=>kit_is)
  (case q9k16=>kit_is)
  (case q9k17=>kit_is)
  (case q9k18=>kit_is)
  (case q9k19=>kit_is)
  (case q3x=>k_exc)
  (case q3r=>k_is)
  (case q3g=>k_is)
  (case q3h=>k_is)
  (case q3b=>k_is)
  (case q3c=>k_is)
  (case q3a=>k_is)
  (case q3o=>k_is)
  (case q3v=>kit_is)
  (case q3k1=>kit_is)
  (case q3k2=>kit_is)
  (case q3k3=>kit_is)
  (case q3k4=>kit_is)
  (case q3k5=>kit_is)
  (case q3k6=>kit_is)
  (case q3k7=>kit_is)
  (case q3k8=>kit_is)
  (case q3k9=>kit_is)
  (case q3k10=>kit_is)
  (case q3k11=>kit_is)
  (case q3k12=>kit_is)
  (case q3k13=>kit_is)
  (case q3k14=>kit_is)
  (case q3k15=>kit_is)
  (case q3k16=>kit_is)
  (case q3k17=>kit_is)
  (case q3k18=>kit_is)
  (case q3k19=>kit_is)
  (case q2x=>k_exc)
  (case q2r=>k_is)
  (case q2g=>k_is)
  (case q2h=>k_is)
  (case q2b=>k_is)
  (case q2c=>k_is)
  (case q2a=>k_is)
  (case q2o=>k_is)
  (case q2v=>kit_is)
  (case q2k1=>kit_is)
  (case q2k2=>kit_is)
  (case q2k3=>kit_is)
  (case q2k4=>kit_is)
  (case q2k5=>kit_is)
  (case q2k6=>kit_is)
  (case q2k7=>kit_is)
  (case q2k8=>kit_is)
  (case q2k9=>kit_is)
  (case q2k10=>kit_is)
  (case q2k11=>kit_is)
  (case q2k12=>kit_is)
  (case q2k13=>kit_is)
  (case q2k14=>kit_is)
  (case q2k15=>kit_is)
  (case q2k16=>kit_is)
  (case q2k17=>kit_is)
  (case q2k18=>kit_is)
  (case q2k19=>kit_is)
  (case q4x=>k_exc)
  (case q4r=>k_is)
  (case q4g=>k_is)
  (case q4h=>k_is)
  (case q4b=>k_is)
  (case q4c=>k_is)
  (case q4a=>k_is)
  (case q4o=>k_is)
  (case q4v=>kit_is)
  (case q4k1=>kit_is)
  (case q4k2=>kit_is)
  (case q4k3=>kit_is)
  (case q4k4=>kit_is)
  (case q4k5=>kit_is)
  (case q4k6=>kit_is)
  (case q4k7=>kit_is)
  (case q4k8=>kit_is)
  (case q4k9=>kit_is)
  (case q4k10=>kit_is)
  (case q4k11=>kit_is)
  (case q4k12=>kit_is)
  (case q4k13=>kit_is)
  (case q4k14=>kit_is)
  (case q4k15=>kit_is)
  (case q4k16=>kit_is)
  (case q4k17=>kit_is)
  (case q4k18=>kit_is)
  (case q4k19=>kit_is)
  (case q5x=>k_exc)
  (case q5r=>k_is)
  (case q5g=>k_is)
  (case q5h=>k_is)
  (case q5b=>k_is)
  (case q5c=>k_is)
  (case q5a=>k_is)
  (case q5o=>k_is)
  (case q5v=>kit_is)
  (case q5k1=>kit_is)
  (case q5k2=>kit_is)
  (case q5k3=>kit_is)
  (case q5k4=>kit_is)
  (case q5k5=>kit_is)
  (case q5k6=>kit_is)
  (case q5k7=>kit_is)
  (case q5k8=>kit_is)
  (case q5k9=>kit_is)
  (case q5k10=>kit_is)
  (case q5k11=>kit_is)
  (case q5k12=>kit_is)
  (case q5k13=>kit_is)
  (case q5k14=>kit_is)
  (case q5k15=>kit_is)
  (case q5k16=>kit_is)
  (case q5k17=>kit_is)
  (case q5k18=>kit_is)
  (case q5k19=>kit_is)
