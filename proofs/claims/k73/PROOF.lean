import PyProof.Rows.All
import Wide.All
import OpenK.AllK
import Wide.FinOn
import Lean
import PyProof.EqAt
import PyProof.EqKinds
import PyProof.TupleCall
import PyProof.P3Eq
import PyProof.Draws
import PyProof.EnumMake
import PyProof.NeData
import KE.LcSums
import PyProof.WalkInts
import PyProof.SeqI3
import PyProof.Rows.CallKwBuiltin
import KE.KLam
import PyProof.Rows.SortRuns
import PyProof.Rows.SortShellK
import KE.KSortTup
import KE.KRevIter
import PyProof.FactsAll.range_2
import PyProof.MinMaxWalk
import PyProof.WalksMore
import PySem.Challenge.RW_rooklands_k73_least_weights_and_products
local macro_rules | `(tactic| omega) => `(tactic| first | lia | omega +splitDisjunctions)
open PySem renaming PyData->Qa,wpAny_pure->Qh,FuncData->QB,Program->QF,Expr->QM,Around->Q6,World->Q9,wpAny_truthy_bool->Jp,wpAny_seqItems->Ju,wpAny_newObj_type->JB,wpAny_holding->JQ,Heap->JU,wpAny_field->J4,wpAny_tryCatch->J7,wpAny_callSpecial?_slot->Zp,wpAny_pyIter_tuple->Zu,mem_of_lookup->Zy,wpAny_loadPart'->ZG,Stmt->ZH,wpAny_letGo->ZL,wpAny_call_entry->ZS,wpAny_pyNext_list_item->ZW,wpAny_setField_rec->Z0,Scope->Z3,wpAny_passesOwn->Yc,codeAny_builtin->Yd,plainId_quiet->Yh,NameKind->Yp,wpAny_updateSeq->YF,wpAny_Call_Name_kw->YG,Paired->YR,wpAny_pyIter_list->YS,wpAny_pyNext_list_end->Y1,wpAny_newFunctionEnv->Y9,wpAny_pyIter_enum->Qa7,wpAny_comprehension_free->Qa8,wpAny_pyIter_zip->QbB,codeAny_compStart_list->QbG,wpAny_execs_nil->Qcg,codeAny_mono->Qch,ReadsAll->Qcl,wpAny_updateSeq_pair->Qcz,wpAny_onRaise->QdW,Fin->Qd1,PassesOwn->Qd2,Operator->Qd3,Comprehension->Qd5,Arguments->Qd9,seqIndex_neg->QfC,IsPart->QfG,noFill_tuple_add->QfK,sizeLine_eq->Qhq,seqIndex_of->Qhr,Keyword->Qhv,CmpOp->Qhw,Builtin->Qhx,wpAny_letOwnedTupleGo_enum->Qh9,wpAny_letOwnedTupleGo_zip->Qio,Reads->Qip,call_meets->QkZ,Result->Qk0,seq_tuple_add->Qk7,call->Qk9,BindsTo->Qlf,wpAny_getItem_list_neg->QmX,richCompare_meets_room->QmZ,wpAny_typeOf->QnQ,exec_Assign_Name_used->QnR,concat_meets->QnS,IsZip->Qn2,wpAny_of_eq->Qp9,wpAny_List_spliced->Qth,ZipApart->Qtj,Within->Qtk,wpAny_sequenceKey->QtE,wpAny_call->QtF,wpAny_assign_Name->QtG,wpAny_Name->QtH,typeIs_int->QtI,slot_list_getitem->QtJ
open PySem.W renaming Frag->Qb,keepIn->Qc,nsIn->Ql,codeIn->Qw,mg_of->Qx,fnOf->Qz,mg_none_of->QN,kia_one->JL,CodeHd->Zb,kitOne->Zq,kla_obj->QaY,tabObj->Qbg,methodObj->Qci,instObj->Qde,OpenLaw->Qdf,noTabs->QdY,lookIn->QdZ,kla_fn->Qd0,cellsFrom_some->QfD,callWith_K->Qic,kitx_list->Qiq,kitx_dict->Qir,plainGet->Qk1,codeHdIn->Qk2,findIn->Qm1,WalkO->QnV
open PySem.Heap renaming get?_push_of_some->Qd,lt_size->Qi,get?_push_size->Qp,get?_update_other->JT,size_push->Zh,get?_update_self->YJ,SameBut->Qbi,IsTuple->Qij
open List renaming length_map->Qe,getElem?_eq_getElem->Qg,size_toArray->Qm,getElem?_eq_some_iff->Qr,mem_map->Qs,mem_of_getElem?->Qt,getElem?_map->Qv,mem_cons->Qy,length_append->QC,getD_eq_getElem?_getD->QD,mem_append_right->QJ,length_cons->QK,lookup_cons->QQ,not_mem_nil->QX,replicate->QY,mem_singleton->Q0,all_eq_true->Q7,length_range->Jc,map_map->Je,map_append->Jf,mem_cons_of_mem->Jj,replicate_succ->Jr,mem_iff_getElem?->Jy,mem_filter->JE,take_length->JF,take_add_one->JH,mem_cons_self->JM,range->JN,getElem?_set_self->JS,map_congr_left->JW,mem_range->JX,mem_append->J1,length_replicate->J3,flatten_cons->Zj,length_set->Zl,getElem?_range->Zm,append_nil->Zn,length_filter_le->Zr,map_cons->ZB,getElem?_eq_none->ZU,flatMap_append->Ym,length_nil->Yq,getElem?_replicate->Yr,filter_cons_of_pos->Ys,filter_cons_of_neg->Yt,any_cons->Yu,pairwise_append->YU,mem_of_getLast?->YV,dropLast_concat_getLast->YW,mem_map_of_mem->Y4,getElem?_append_right->Qaa,zip_cons_cons->Qad,filter_append->Qae,getLastD_eq_getLast?->Qar,getLast?_eq_none_iff->Qas,getElem?_append_left->Qat,mem_flatMap->QaZ,length_take->Qa0,getElem_mem->Qa1,nodup_cons->Qbh,mem_append_left->QbD,getLast?_append->QbE,getElem?_set_ne->QbF,map_id->Qb8,filterMap_cons->Qb9,filterMap_map->Qcn,nodup_append->Qda,flatMap_cons->Qdb,ext_getElem?->Qdc,any_eq_true->Qdm,of_mem_zip->QeI,lookup->QeJ,forIn_cons->QeK,pairwise_iff_getElem->QfE,getLast?_eq_some_iff->QfF,eq_of_mem_replicate->QfL,sum_cons->Qgv,pairwise_singleton->Qgw,getElem?_cons_zero->Qgx,getElem?_cons_succ->Qgy,filter_eq_nil_iff->Qht,take_append_drop->Qid,pairwise_flatMap->Qie,map_nil->Qif,getElem?_toArray->Qig,filterMap_append->Qih,any_map->Qii,length_pos_iff->Qk3,zip_nil_right->Qlc,mem_filterMap->Qld,zip_nil_left->Qm3,take_sublist->Qm4,pairwise_map->Qm5,getElem?_set->Qm6,foldl->Qm7,append_assoc->Qm8,zipIdx_cons->QnX,mem_toArray->QnY,map_flatMap->QnZ,length_drop->Qn0,flatMap_map->Qn1,zipIdx_nil->QpX,range_succ->QpY,nil_append->QpZ,filter_nil->Qp0,forIn_nil->Qrd,take_nil->Qtn,drop_nil->Qto,all_map->QtU
open PySem.PyData renaming int->Qf,eqv->Jh,depthAll->Ji,depth->Jx,canLayAll0->Jz,bool->Zi,tuple->ZP,canLay0->Qbl,str->Qcm,list->Qdl,eqvAll->QpU
open Bool renaming false_ne_true->Qj,and_eq_true_iff->QR,and_eq_true->Jk,eq_iff_iff->Zo,true_and->Z1,not_eq_true'->Qdd,false_eq_true->Qle,or_eq_true->Qp1,false_and->Qrf,false_or->Qtr
open Nat renaming le_refl->Qk,ne_of_lt->Qu,lt_of_lt_of_le->QH,le_trans->QV,zero_le->Jn,le_of_lt->Zs,lt_irrefl->Z4,lt_of_le_of_lt->Yv,lt_succ_self->YT,lt_succ_of_lt->QaD,ne_of_gt->Qbm,min_le_right->Qd4,succ_mul->Qis,min_self->Qit,lt_trichotomy->QnW,le_max_right->QpW,mul_le_mul->Qtm
open Option.some renaming inj->Qq
open Or renaming inr->QU,inl->QZ
open PySem.NameKind renaming free->Q2,cell->ZQ
open PySem.PassesOwn renaming never->Q4
open PySem.F renaming plain_min_loop->Jg,entry_min_loop->ZM,slot_tuple_iterator_next->Yg,args_tuple_add_2->Qac,entry_tuple_add->Qay,slot_tuple_add->QaC,slot_zip_next->QbH,plainAttrs_list->QeR,args_tuple_iterator_next_1->QfH,entry_tuple_iterator_next->QfM,args_zip_next_1->Qre,entry_zip_next->Qtq,slot_int_rmul->Qt0
open PySem.Builtin.SmallTypes renaming nextOf->Jm,ownedTupleIsFree->JY,ownedTupleHandOut->Y6
open Int renaming toNat_natCast->Jt,natCast_add->QeS,le_refl->QeT,le_trans->Qiu,add_zero->Qiv,natCast_nonneg->Qm9
open PyProof.Rows renaming slot_tuple_getitem->Jw,callWith_type1->JG,IntsAre->YH,Keyed->Y5,AllBare->Qdg,SortKind->QdX,subscriptTail_builtinR->QmY,entry_tuple_getitem->Qra,args_tuple_getitem->Qti,IsTup->QtZ
open PySem.Builtin.Int renaming intBits->JO,intTooBig->Qd6
open Option renaming map_eq_some_iff->JP,getD_some->Qla,getD_none->Qlb,none->Qtl
open False renaming elim->J6
open PySem.Around renaming under_plainId->J9,frames_deeper->Qhy
open PySem.Value renaming ref->Za,bool->Yl,none->Yy,notImplemented->Qia,type->Qk8,str->QnT,int->QnU,float->QtL
open ForInStep renaming yield->Zc
open PySem.Builtin.Builtins renaming bindParams->Zw
open Array renaming length_toList->Zz,getElem?_eq_getElem->Qaf,toList_append->QbI,getD_eq_getD_getElem?->Qd8,mem_toList_iff->Qik,getElem_toList->Qil,append_assoc->Qk4,toList->Qts
open List.Pairwise renaming filter->ZI,nil->QtV,map->QtW,imp_of_mem->QtX,imp->QtY
open PySem.Builtin.Slice renaming slicePlaces->ZN,sliceAdjust->YK,sliceApplied->Qcb,slicePartIndex->Qt2,sliceFields->Qt3
open PySem.Builtin.Tuple renaming tupleExact->ZV,tupleCompareSizes->Qa9,tupleItemsOf->Qca,tupleIsExact->Qt1
open PySem.Builtin.List renaming listTooLong->ZX
open PySem.Challenge renaming rw_rooklands_k73_least_weights_and_products->Ye,pw_rooklands_k73_least_weights_and_products->Qrc
open PySem.Str renaming ofString->Qaq
open Ne renaming symm->QaB
open True renaming intro->Qbj
open Sum renaming inl->Qbk,inr->QeP
open PySem.Obj renaming mapSeq->QbC,data_mapFields->Qm2
open PySem.AutoSeq1 renaming sub_tuple_tuple->Qd7
open PySem.Heap.SameBut renaming update->QeL
open PySem.Calls renaming Name_function_global->QeM
open PySem.SeqAt renaming eqv_refl->QeQ,eqAt_reads->Qm0
open Prod.mk renaming inj->Qhs
open PyProof.Rows.LSm renaming kept_iter->Qhu
open PySem.Shared renaming heap->Qib
open PySem.Paired renaming length->QpV
open Sum.inl renaming inj->Qrb
open PySem.Heap.IsSliceOf renaming new->Qtp
open PySem.W.WShape renaming has->QtK
open PySem.EqMixed renaming ne_str_int->QtM,ne_str_bool->QtN,ne_int_str->QtO,ne_bool_str->QtP,eq_str_int->QtQ,eq_str_bool->QtR,eq_int_str->QtS,eq_bool_str->QtT
open PySem.Builtin.Range renaming rangeSize->Qt4
open PySem PySem.Spec PyProof.Rows
set_option Elab.async false
set_option linter.all false
set_option maxRecDepth 100000
namespace L2
abbrev Key:=Sum Int Str
def QsH:Key->Value->Bool
 |.inl k,v=>Value.isInt k v
 |.inr x,v=>Value.isStrOf x v
def QvZ(w:Q9):Key->Int
 |.inl k=>hashInt k
 |.inr x=>hashStr w x
theorem Zv:∀{k:Key}{v:Value},QsH k v=true->(∃i t,k=Qbk i/\v=QnU i t)∨(∃x t,k=QeP x/\v=QnT x t)
 |.inl i,v,h=>by
  obtain⟨t,e⟩:=Value.isInt_shape (k:=i) (v:=v) h;exact .inl ⟨i,t,rfl,e⟩
 |.inr x,v,h=>by
  obtain⟨t,e⟩:=Value.isStrOf_shape (x:=x) (v:=v) h;exact .inr ⟨x,t,rfl,e⟩
theorem QsG(a b:Int):decide ((Qbk a:Key)=Qbk b)=(a == b):=by
 by_cases e:a=b
 ·subst e;simp
 ·have h:¬(Qbk a:Key)=Qbk b:=λq=>e (Qrb q)
  rw[decide_eq_false h];exact(beq_eq_false_iff_ne.mpr e).symm
theorem QsD(a b:Str):decide ((QeP a:Key)=QeP b)=decide (a=b):=by
 by_cases e:a=b
 ·subst e;simp
 ·have h:¬(QeP a:Key)=QeP b:=λq=>e (Sum.inr.inj q)
  rw[decide_eq_false h,decide_eq_false e]
theorem QsF(a:Int)(b:Str):decide ((Qbk a:Key)=QeP b)=false:=decide_eq_false (λq=>nomatch q)
theorem QsE(a:Str)(b:Int):decide ((QeP a:Key)=Qbk b)=false:=decide_eq_false (λq=>nomatch q)
def mixKind(prog:QF)(w:Q9):PySem.KeyKind prog w Key where
 is:=QsH
 hash:=QvZ w
 inj:=λv a b ha hb=>by
  rcases Zv ha with⟨i,t,rfl,rfl⟩ | ⟨x,t,rfl,rfl⟩
  ·rcases Zv hb with⟨j,u,rfl,e⟩ | ⟨y,u,rfl,e⟩
   ·injection e with e1 _;rw[e1]
   ·exact nomatch e
  ·rcases Zv hb with⟨j,u,rfl,e⟩ | ⟨y,u,rfl,e⟩
   ·exact nomatch e
   ·injection e with e1 _;rw[e1]
 byValue:=λk v h=>by
  rcases Zv h with⟨i,t,rfl,rfl⟩ | ⟨x,t,rfl,rfl⟩<;>rfl
 pyHash:=λhv h=>by
  rcases Zv hv with⟨i,t,rfl,rfl⟩ | ⟨x,t,rfl,rfl⟩
  ·exact wpAny_pyHash_int h
  ·exact wpAny_pyHash_str h
 eqBool:=λhu hv h=>by
  rcases Zv hu with⟨i,t,rfl,rfl⟩ | ⟨x,t,rfl,rfl⟩
  ·rcases Zv hv with⟨j,u,rfl,rfl⟩ | ⟨y,u,rfl,rfl⟩
   ·rw[QsG] at h;exact wpAny_eqBool_int h
   ·rw[QsF] at h;exact SeqAt.EqAt.int_str i t y u _ _ _ _ h
  ·rcases Zv hv with⟨j,u,rfl,rfl⟩ | ⟨y,u,rfl,rfl⟩
   ·rw[QsE] at h;exact SeqAt.EqAt.str_int x t j u _ _ _ _ h
   ·rw[QsD] at h;exact wpAny_eqBool_str h
 «strs» := λk x t v h=>by
  rcases Zv h with⟨i,u,rfl,e⟩ | ⟨y,u,rfl,e⟩
  ·exact nomatch e
  ·injection e with e1 _
   subst e1;cases v<;>rfl
inductive V where
 |non | bl (b:Bool) | int (i:Int) | str (x:Str) | byt (b:Array UInt8) | flt (b:UInt64) | ref (a:Addr) | ty (n:String)
 deriving DecidableEq
def RelV:V->Value->Prop
 |.non,u=>u=Yy
 |.bl b,u=>u=Yl b
 |.int i,u=>∃t,u=QnU i t
 |.str x,u=>∃t,u=QnT x t
 |.byt b,u=>∃t,u=Value.bytes b t
 |.flt b,u=>∃t,u=QtL b t
 |.ref a,u=>u=Za a
 |.ty n,u=>u=Qk8 n
abbrev Vals:List V->List Value->Prop:=YR RelV
theorem Vals.length{xs:List V}{us:List Value}(r:Vals xs us):xs.length=us.length:=QpV r
theorem Vals.get:∀{xs:List V}{us:List Value}{i:Nat}{x:V},Vals xs us->xs[i]? = some x->∃u,us[i]? = some u/\RelV x u
 |_,_,_,_,.nil,e=>by simp at e
 |_,_,0,_,.cons r _,e=>by simp at e;subst e;exact⟨_,rfl,r⟩
 |_,_,i+1,x,.cons _ t,e=>by
  obtain⟨u,h1,h2⟩:=Vals.get (i:=i) (x:=x) t (by simpa using e);exact⟨u,by simpa using h1,h2⟩
theorem Vals.set{x:V}{u:Value}(r:RelV x u):∀{xs:List V}{us:List Value}(i:Nat),Vals xs us->Vals (xs.set i x) (us.set i u)
 |_,_,_,.nil=>.nil
 |_,_,0,.cons _ t=>.cons r t
 |_,_,i+1,.cons q t=>.cons q (Vals.set r i t)
theorem Vals.append:∀{xs ys:List V}{us ws:List Value},Vals xs us->Vals ys ws->Vals (xs++ys) (us++ws)
 |_,_,_,_,.nil,s=>s
 |_,_,_,_,.cons r t,s=>.cons r (Vals.append t s)
theorem Vals.take:∀{xs:List V}{us:List Value}(n:Nat),Vals xs us->Vals (xs.take n) (us.take n)
 |_,_,0,_=>.nil
 |_,_,_+1,.nil=>.nil
 |_,_,n+1,.cons r t=>.cons r (Vals.take n t)
theorem Vals.drop:∀{xs:List V}{us:List Value}(n:Nat),Vals xs us->Vals (xs.drop n) (us.drop n)
 |_,_,0,r=>r
 |_,_,_+1,.nil=>.nil
 |_,_,n+1,.cons _ t=>Vals.drop n t
def QuV:Option V->Option Value->Prop
 |some v,some u=>RelV v u
 |none,none=>True
 |_,_=>False
def KV{κ:Type}:List (κ×V)->List (κ×Value)->Prop:=YR λ(p:κ×V)(q:κ×Value)=>p.1=q.1/\RelV p.2 q.2
def kV:Key->V
 |.inl i=>.int i
 |.inr x=>.str x
inductive HO where
 /-- a list -/
 |lst (xs:List V)
 /-- a tuple (never changes) -/
 |tup (xs:List V)
 /-- a dict whose keys are ints and texts;one whose keys are tuples of ints and texts (the empty one is both) -/
 |dK (kvs:List (Key×V)) | dT (kvs:List (List Key×V))
 /-- a set of ints: its members,its size -/
 |set (S:Int->Bool) (n:Nat)
 /-- an instance of the class at C,its dict at dx,its attributes -/
 |ins (C dx:Addr) (fs:List (Str×V))
 /-- the dict of the instance at x -/
 |own (x:Addr)
 /-- the dict of an exception -/
 |xd (fs:List (Str×V))
 /-- a bound method,f of x -/
 |met (f x:Addr)
 /-- a range object lo,lo+1,.. below hi -/
 |rng (lo hi:Int)
 /-- a thing that is known to the object (the script;a dict while a loop walks it): read,never written while it is so -/
 |frz (o:Obj) (u:HO)
 /-- a code object's table -/
 |tbl (ps:Array Value)
 /-- any other thing,by what is true of its one object (a def of one's own: SetO a S n:=HO.ext λh=>..) -/
 |ext (φ:JU->Prop)
abbrev Hp:=Addr->Option HO
def upd(H:Hp)(a:Addr)(o:HO):Hp:=λb=>if b=a then some o else H b
theorem Q8{H:Hp}{a:Addr}{o:HO}:upd H a o a=some o:=by unfold upd;rw[if_pos rfl]
theorem Q5{H:Hp}{a b:Addr}{o:HO}(h:b≠a):upd H a o b=H b:=by unfold upd;rw[if_neg h]
theorem JA{H:Hp}{a b:Addr}{o:HO}(h:H a=some o)(h':H b=none):a≠b:=by
 intro e;subst e;rw[h] at h';cases h'
def TupN(h:JU)(a:Addr)(items:Array Value):Prop:=∃o,h.get? a=some o/\o.cls=.type "tuple" /\ o.dict=none/\∃n,o.data=.seq items n
theorem TupN.tup{h:JU}{a:Addr}{items:Array Value}(x:TupN h a items):QtZ h a items:=let ⟨o,e,c,_,d⟩:=x;⟨o,e,c,d⟩
theorem TupN.lt{h:JU}{a:Addr}{items:Array Value}(x:TupN h a items):a<h.objs.size:=let ⟨_,e,_⟩:=x;Qi e
theorem TupN.new(h:JU)(items:Array Value):TupN (h.push { cls:=.type "tuple",data:=.seq items }) h.objs.size items:=⟨_,Qp _ rfl,rfl,rfl,_,rfl⟩
def Qt5(ps:Array Value):Str:=match ps.toList with
 |.str q _::_=>q
 |_ => ""
section
variable(P:QF)(w:Q9)
def ObjOk(H:Hp)(h:JU)(a:Addr):HO->Prop
 |.lst xs=>xs.length<=sizeLine/\∃(its:List Value)(n:Nat),Vals xs its/\h.get? a=some { cls:=.type "list",data:=.seq its.toArray n }
 |.tup xs=>xs.length<=sizeLine/\∃its:List Value,Vals xs its/\TupN h a its.toArray
 |.dK kvs=>kvs.length<=sizeLine/\(a == sysModules)=false/\∃vs,KV kvs vs/\h.DictOf (mixKind P w) a vs
 |.dT kvs=>kvs.length<=sizeLine/\(a == sysModules)=false/\∃xs:List (List Key×Addr×Value),
   YR (λ(p:List Key×V)(q:List Key×Addr×Value)=>p.1=q.1/\H q.2.1=some (.tup (p.1.map kV))/\RelV p.2 q.2.2) kvs xs /\
   ∃o es ep,h.get? a=some o/\o.ExactDict/\o.data=.dict es ep/\es.toList=xs.map (entryOfKey (tupleKind (mixKind P w)))/\(xs.map (·.1)).Nodup
 |.set S n=>h.SetOf (intKind P w) a S n
 |.ins C dx fs=>H dx=some (.own a)/\fs.length<=1000/\dx≠a/\h.get? a=some (PySem.W.instObj C dx) /\
   ∃mA,h.Ns1 dx mA/\(∀f,QuV (fs.lookup f) (mA f))/\PySem.Within mA (fs.map (·.1))
 |.own _=>∃o,h.get? a=some o
 |.xd fs=>∃mA,h.Ns1 a mA/\∀f,QuV (fs.lookup f) (mA f)
 |.rng lo hi=>∃t u v,h.get? a=some { cls:=.type "range",data:=.fields #[.int lo t,.int hi u,.int 1 v] }
 |.frz o u=>h.get? a=some o/\ObjOk H h a u
 |.tbl ps=>∃qs:Array Value,h.get? a=some { cls:=.none,data:=.fields qs }/\TriplesOk qs.toList/\∀pos v,codeAmong pos qs.toList=some v->∃c oc vs t,v=.ref c/\H c=some (.frz oc (.own c))/\oc.data=.fields vs/\vs[1]? = some (.str (Qt5 ps) t)
 |.met f x=>h.get? a=some (PySem.W.methodObj (.ref f) (.ref x))
 |.ext φ=>φ h/\(∃o,h.get? a=some o)/\∀h1 h2:JU,φ h1->(∀o,h1.get? a=some o->h2.get? a=some o)->φ h2
def HOk(H:Hp)(h:JU):Prop:=∀a o,H a=some o->ObjOk P w H h a o
end
section
variable{P:QF}{w:Q9}{H H':Hp}{h h':JU}{a:Addr}{o:HO}
theorem ObjOk.lt(x:ObjOk P w H h a o):a<h.objs.size:=by
 cases o with
 |lst xs=>obtain⟨_,_,_,_,e⟩:=x;exact Qi e
 |tup xs=>obtain⟨_,_,_,p⟩:=x;exact p.lt
 |dK kvs=>obtain⟨_,_,_,_,o,_,_,e,_⟩:=x;exact Qi e
 |dT kvs=>obtain⟨_,_,_,_,o,_,_,e,_⟩:=x;exact Qi e
 |set S n=>obtain⟨o,_,_,_,e,_⟩:=x;exact Qi e
 |ins C dx fs=>obtain⟨_,_,_,e,_⟩:=x;exact Qi e
 |own y=>obtain⟨_,e⟩:=x;exact Qi e
 |xd fs=>obtain⟨_,⟨_,_,_,e,_⟩,_⟩:=x;exact Qi e
 |rng lo hi=>obtain⟨_,_,_,e⟩:=x;exact Qi e
 |frz ob u=>obtain⟨e,_⟩:=x;exact Qi e
 |tbl ps=>obtain⟨_,e,_⟩:=x;exact Qi e
 |met f y=>exact Qi (show h.get? a=some _ from x)
 |ext φ=>obtain⟨_,⟨_,e⟩,_⟩:=x;exact Qi e
theorem YR.mapP{α β:Type}{F G:α->β->Prop}:∀{l₁:List α}{l₂:List β},YR F l₁ l₂->(∀a b,F a b->G a b)->YR G l₁ l₂
 |_,_,.nil,_=>.nil
 |_,_,.cons r t,f=>.cons (f _ _ r) (YR.mapP t f)
theorem ObjOk.stay(x:ObjOk P w H h a o)(k:∀b u,(b=a∨H b=some (.own a))->h.get? b=some u->h'.get? b=some u)
  (ho:∀b,H b=some (.own a)->H' b=some (.own a))(ht:∀b xs,H b=some (.tup xs)->H' b=some (.tup xs))(hz:∀b z u,H b=some (.frz z u)->H' b=some (.frz z u):=by exact λ_ _ _ q=>q):ObjOk P w H' h' a o:=by
 induction o with
 |lst xs=>obtain⟨z,its,n,r,e⟩:=x;exact⟨z,its,n,r,k _ _ (.inl rfl) e⟩
 |tup xs=>obtain⟨z,its,r,ob,e,c⟩:=x;exact⟨z,its,r,ob,k _ _ (.inl rfl) e,c⟩
 |dK kvs=>obtain⟨z,y,vs,r,ob,es,ep,e,c⟩:=x;exact⟨z,y,vs,r,ob,es,ep,k _ _ (.inl rfl) e,c⟩
 |dT kvs=>
  obtain⟨z,y,xs,r,ob,es,ep,e,c⟩:=x;exact⟨z,y,xs,YR.mapP r λp q z=>⟨z.1,ht _ _ z.2.1,z.2.2⟩,ob,es,ep,k _ _ (.inl rfl) e,c⟩
 |set S n=>obtain⟨ob,es,ep,t,e,c⟩:=x;exact⟨ob,es,ep,t,k _ _ (.inl rfl) e,c⟩
 |ins C dx fs=>
  obtain⟨d,z,ne,e,mA,⟨od,es,ep,e2,c⟩,r⟩:=x;exact⟨ho _ d,z,ne,k _ _ (.inl rfl) e,mA,⟨od,es,ep,k _ _ (.inr d) e2,c⟩,r⟩
 |own y=>obtain⟨ob,e⟩:=x;exact⟨ob,k _ _ (.inl rfl) e⟩
 |xd fs=>obtain⟨mA,⟨od,es,ep,e,c⟩,r⟩:=x;exact⟨mA,⟨od,es,ep,k _ _ (.inl rfl) e,c⟩,r⟩
 |rng lo hi=>obtain⟨t,u,v,e⟩:=x;exact⟨t,u,v,k _ _ (.inl rfl) e⟩
 |frz ob u ih=>obtain⟨e,q⟩:=x;exact⟨k _ _ (.inl rfl) e,ih q⟩
 |tbl ps=>obtain⟨qs,e,t,f⟩:=x;exact⟨qs,k a _ (.inl rfl) e,t,λpos v q=>let ⟨c,oc,vs,tt,e1,e2,e3⟩:=f pos v q;⟨c,oc,vs,tt,e1,hz _ _ _ e2,e3⟩⟩
 |met f y=>
  have e:h.get? a=some (PySem.W.methodObj (.ref f) (.ref y)):=x;show h'.get? a=some (PySem.W.methodObj (.ref f) (.ref y));exact k a _ (.inl rfl) e
 |ext φ=>obtain⟨p,⟨o,e⟩,st⟩:=x;exact⟨st _ _ p λo q=>k _ _ (.inl rfl) q,⟨o,k _ _ (.inl rfl) e⟩,st⟩
theorem HOk.lt(x:HOk P w H h)(e:H a=some o):a<h.objs.size:=(x a o e).lt
theorem HOk.fresh(x:HOk P w H h)(e:h.objs.size<=a):H a=none:=by
 cases q:H a with
 |none=>rfl
 |some u=>exact absurd (QH (x.lt q) e) (Z4 _)
theorem HOk.kept(x:HOk P w H h)(k:∀b u,h.get? b=some u->h'.get? b=some u):HOk P w H h':=λa o e=>
 (x a o e).stay (λb u _ q=>k b u q) (λ_ q=>q) λ_ _ q=>q
theorem HOk.laid(x:HOk P w H h)(k:∀b u,h.get? b=some u->h'.get? b=some u)(hp:h.objs.size<=a)(new:ObjOk P w (upd H a o) h' a o):HOk P w (upd H a o) h':=λb u e=>by
 have hn:=x.fresh hp;by_cases hb:b=a
 ·subst hb;rw[Q8] at e;cases e;exact new
 ·rw[Q5 hb] at e;exact(x b u e).stay (λc v _ q=>k c v q) (λc q=>by rw[Q5 (JA q hn)];exact q) (λc xs q=>by rw[Q5 (JA q hn)];exact q) λc z u q=>by rw[Q5 (JA q hn)];exact q
end
def Rd(H:Hp)(a:Addr)(u:HO):Prop:=H a=some u∨∃o,H a=some (.frz o u)
theorem Rd.ok{P:QF}{w:Q9}{H:Hp}{h:JU}{a:Addr}{u:HO}(r:Rd H a u)(x:HOk P w H h):ObjOk P w H h a u:=by
 rcases r with r | ⟨o,r⟩
 ·exact x a u r
 ·obtain⟨_,q⟩:=x a _ r;exact q
def Mut:Option HO->Prop
 |some (.lst _)=>True
 |some (.dK _)=>True
 |some (.dT _)=>True
 |some (.set _ _)=>True
 |some (.ins _ _ _)=>True
 |some (.ext _)=>True
 |_=>False
section
variable{P:QF}{w:Q9}{H:Hp}{h h':JU}{x e:Addr}{o':HO}
theorem HOk.write(ok:HOk P w H h)(mu:Mut (H x))(he:e=x∨H e=some (.own x))(k:∀b u,b≠e->h.get? b=some u->h'.get? b=some u)(heo:∃u,h'.get? e=some u)
  (new:ObjOk P w (upd H x o') h' x o'):HOk P w (upd H x o') h':=λb u q=>by
 have nown:∀c y,H c=some (.own y)->c≠x:=λc y r z=>by subst z;rw[r] at mu;exact mu
 have ntup:∀c xs,H c=some (.tup xs)->c≠x:=λc xs r z=>by subst z;rw[r] at mu;exact mu
 have nfrz:∀c z u,H c=some (.frz z u)->c≠x:=λc z u r y=>by subst y;rw[r] at mu;exact mu
 by_cases hb:b=x
 ·subst hb;rw[Q8] at q;cases q;exact new
 ·rw[Q5 hb] at q;by_cases hbe:b=e
  ·have q':H b=some (.own x):=by
    rcases he with z | z
    ·exact absurd (hbe.trans z) hb
    ·rw[hbe];exact z
   rw[q] at q';cases q';obtain⟨v,hv⟩:=heo;exact⟨v,by rw[hbe];exact hv⟩
  ·refine(ok b u q).stay (λc v hc r=>k c v ?_ r) (λc r=>by rw[Q5 (nown c b r)];exact r) (λc xs r=>by rw[Q5 (ntup c xs r)];exact r) λc z u r=>by rw[Q5 (nfrz c z u r)];exact r
   rcases hc with rfl | hc
   ·exact hbe
   ·rintro rfl;rcases he with z | z
    ·exact nown c b hc z
    ·rw[hc] at z;cases z;exact hb rfl
end
structure Un (fs ex:List Addr) (H H':Hp) (h h':JU):Prop where
 keep:∀b o,h.get? b=some o->H b=none->b∉fs->b∉ex->h'.get? b=some o
 slot:∀b o,h.get? b=some o->H b=none->b∈fs->b∉ex->∃sl,h'.get? b=some { o with slots:=sl }
 free:∀b o,h.get? b=some o->H b=none->b∉ex->H' b=none
 there:∀b o,h.get? b=some o->b∉ex->∃o',h'.get? b=some o'
 tups:∀b xs,H b=some (.tup xs)->H' b=some (.tup xs)
 frzs:∀b o u,H b=some (.frz o u)->H' b=some (.frz o u)
 tbls:∀b ps,H b=some (.tbl ps)->∃more,H' b=some (.tbl (ps++more))
section
variable{fs fs' ex ex':List Addr}{H H1 H2:Hp}{h h1 h2 h':JU}{a x e:Addr}{o:HO}
theorem Un.any(u:Un fs ex H H1 h h1){b:Addr}{ob:Obj}(q:h.get? b=some ob)(n:H b=none)(hx:b∉ex):∃sl,h1.get? b=some { ob with slots:=sl }:=by
 by_cases hb:b∈fs
 ·exact u.slot b ob q n hb hx
 ·exact⟨ob.slots,u.keep b ob q n hb hx⟩
theorem Un.kept(k:∀b u,h.get? b=some u->h'.get? b=some u):Un fs ex H H h h':=
 ⟨λb ob q _ _ _=>k b ob q,λb ob q _ _ _=>⟨ob.slots,k b ob q⟩,λ_ _ _ n _=>n,λb ob q _=>⟨ob,k b ob q⟩,λ_ _ q=>q,λ_ _ _ q=>q,λ_ ps q=>⟨#[],by rw[q];simp⟩⟩
theorem Un.refl:Un fs ex H H h h:=Un.kept λ_ _ q=>q
theorem Un.laid(k:∀b u,h.get? b=some u->h'.get? b=some u)(hp:h.objs.size<=a)(hn:H a=none):Un fs ex H (upd H a o) h h' where
 keep:=λb u q _ _ _=>k b u q
 slot:=λb u q _ _ _=>⟨u.slots,k b u q⟩
 free:=λb u q n _=>by rw[Q5 (Qu (QH (Qi q) hp))];exact n
 there:=λb u q _=>⟨u,k b u q⟩
 tups:=λb xs q=>by rw[Q5 (JA q hn)];exact q
 frzs:=λb u xs q=>by rw[Q5 (JA q hn)];exact q
 tbls:=λb ps q=>⟨#[],by rw[Q5 (JA q hn),q];simp⟩
theorem Un.write(mu:Mut (H x))(he:e=x∨H e=some (.own x))(k:∀b u,b≠e->h.get? b=some u->h'.get? b=some u)(heo:∃u,h'.get? e=some u):Un fs ex H (upd H x o) h h':=by
 have hx:∀b,H b=none->b≠x:=λb n z=>by subst z;rw[n] at mu;exact mu
 have hb:∀b,H b=none->b≠e:=λb n z=>by
  subst z;rcases he with r | r
  ·exact hx b n r
  ·rw[n] at r;cases r
 have hm:∀b u,H b=some u->¬Mut (some u)->b≠x:=λb u q nm z=>by subst z;rw[q] at mu;exact nm mu
 refine⟨λb u q n _ _=>k b u (hb b n) q,λb u q n _ _=>⟨u.slots,k b u (hb b n) q⟩,λb u q n _=>by rw[Q5 (hx b n)];exact n,λb u q _=>?_,
  λb xs q=>by rw[Q5 (hm b _ q λz=>z)];exact q,λb u xs q=>by rw[Q5 (hm b _ q λz=>z)];exact q,λb ps q=>⟨#[],by rw[Q5 (hm b _ q λz=>z),q];simp⟩⟩
 by_cases hbe:b=e
 ·subst hbe;exact heo
 ·exact⟨u,k b u hbe q⟩
end
def trk(h:JU)(H:Hp):List Addr:=(JN h.objs.size).filter λa=>(H a).isSome
def Qkc(h:JU)(H:Hp):JU:=PySem.W.hideAll h (trk h H)
theorem Qkb(h:JU)(H:Hp):(Qkc h H).objs.size=h.objs.size:=PySem.W.hideAll_size _ _
theorem QmK{h:JU}{H:Hp}{b:Addr}{o:Obj}(e:h.get? b=some o)(n:H b=none):(Qkc h H).get? b=some o:=
 PySem.W.hideAll_get _ e λhm=>by
  have q:(H b).isSome=true:=(JE.mp hm).2;rw[n] at q;simp at q
theorem Qpb{h:JU}{H:Hp}{b:Addr}{o:Obj}(e:(Qkc h H).get? b=some o):h.get? b=some o/\H b=none:=by
 have e':h.get? b=some o:=PySem.W.of_hideAll (trk h H) e;refine⟨e',?_⟩;cases q:H b with
 |none=>rfl
 |some x=>
  have hm:b∈trk h H:=JE.mpr ⟨JX.mpr (Qi e'),by simp[q]⟩;have z:(Qkc h H).get? b=none:=PySem.W.hideAll_none (trk h H) hm;rw[z] at e;cases e
def QpS(g h:JU)(L:Addr):List (Addr×Obj):=(JN h.objs.size).filterMap λa=>if a=L∨(g.get? a).isSome=true then none else(h.get? a).map λo=>(a,o)
def rest(g h:JU)(L d:Addr):List (Addr×Obj):=(QpS g h L).filter λp=>decide (p.1≠d)
structure Mod (K:PySem.W.Frag) (mg:Str->Option Value) (base:JU):Prop where
 kin:K.In base
 glob:base.Ns mainGlobals mg
 blt:∃mb,base.Ns builtinsNs mb/\∀x:Str,x ≠ "__name__" -> mb x=bootBuiltins x
 nolimit:base.NoLimit
structure Cx where
 prog:QF
 w:Q9
 K:PySem.W.Frag
 mg:Str->Option Value
 base:JU
 A:Q6
 N:List Str
 s₀:Shared
 H₀:Hp
 env:Env
 outer:List Env
 stack:List Env
 ex:List Addr
 fn:Str->Bool
 calm:Bool
 pn:List (Addr×Obj)
 xe:Value->Shared->Prop
def frs(l:List Env):List Addr:=l.filterMap (·.frame)
abbrev Cx.fs (X:Cx):List Addr:=frs X.outer
def Vis(sc:Z3)(x:Str):Prop:=sc.names.lookup x=some .local∨sc.names.lookup x=some .cell∨sc.names.lookup x=some .free
def Loc(sc:Z3)(x:Str):Prop:=sc.names.lookup x=some .local∨sc.names.lookup x=some .cell
def Look(env:Env)(h:JU)(m:Str->Option Value)(x:Str)(u:Value):Prop:=
 (env.kindOf x=some .local/\m x=some u)∨((env.kindOf x=some .cell∨env.kindOf x=some .free)/\∃c,env.cells.lookup x=some c/\h.IsCell c (some u))
structure Cx.Ok (X:Cx):Prop where
 mod:Mod X.K X.mg X.base
 kind:X.env.scope.kind=.function
 glob:X.env.globals=mainGlobals
 blt:X.env.builtins=builtinsNs
 above:X.s₀.heap.objs.size<=X.env.locals
 inj:∀x y c,X.env.cells.lookup x=some c->X.env.cells.lookup y=some c->x=y
 has:∀x,(X.env.kindOf x=some .cell∨X.env.kindOf x=some .free)->∃c,X.env.cells.lookup x=some c
 cab:∀x c,X.fn x=true->X.env.cells.lookup x=some c->X.s₀.heap.objs.size<=c
 hd:X.calm=true->X.A.handled=none
 frames:X.A.frames=some X.stack
 stk:X.stack=X.outer∨(X.stack=X.env::X.outer/\X.env.frame=some X.env.locals)
 exf:∀b∈X.ex,b≠X.env.locals/\∀x c,X.env.cells.lookup x=some c->c≠b
 bs:∀b o,X.base.get? b=some o->X.s₀.heap.get? b=some o/\X.H₀ b=none
 bsz:X.base.objs.size<=X.s₀.heap.objs.size
 noex:∀b o,X.base.get? b=some o->b∉X.ex
 exfs:∀b∈X.ex,b∉X.fs
 funs:X.s₀.heap.FunFrames X.base X.outer
 frf:∀b∈X.fs,X.H₀ b=none
structure Inv (X:Cx) (pins:List (Addr×Obj)) (σ:List (Option V)) (H:Hp) (s:Shared):Prop where
 ok:X.Ok
 os:s.os=X.s₀.os
 bare:Qdg s.gens
 base:Un X.fs X.ex X.H₀ H X.s₀.heap s.heap
 loc:∃m,s.heap.Ns X.env.locals m/\∀(i:Nat)(x:Str)(v:V),X.N[i]? = some x->σ[i]? = some (some v)->Vis X.env.scope x->∃u,RelV v u/\Look X.env s.heap m x u
 cell:∀x c,X.env.cells.lookup x=some c->∃v,s.heap.IsCell c v
 free:H X.env.locals=none
 freeC:∀x c,X.env.cells.lookup x=some c->H c=none
 pin:∀p∈X.pn++pins,s.heap.get? p.1=some p.2/\H p.1=none/\p.1≠X.env.locals/\p.1∉X.fs/\∀v,p.2.data≠.cell v
 hok:HOk X.prog X.w H s.heap
 len:σ.length=X.N.length
section
variable{X:Cx}{pins:List (Addr×Obj)}{σ:List (Option V)}{H H':Hp}{s:Shared}{h':JU}
theorem Cx.Ok.nofr(ok:X.Ok){b:Addr}{o:Obj}(e:X.base.get? b=some o):b∉X.fs:=λhb=>by
 have:=(ok.funs.mem hb).1;rw[e] at this;cases this
theorem Inv.bs(I:Inv X pins σ H s):∀b o,X.base.get? b=some o->s.heap.get? b=some o/\H b=none:=λb o e=>
 ⟨I.base.keep b o (I.ok.bs b o e).1 (I.ok.bs b o e).2 (I.ok.nofr e) (I.ok.noex b o e),I.base.free b o (I.ok.bs b o e).1 (I.ok.bs b o e).2 (I.ok.noex b o e)⟩
theorem Inv.bk(I:Inv X pins σ H s):∀b o,X.base.get? b=some o->s.heap.get? b=some o:=λb o e=>(I.bs b o e).1
theorem Inv.mod(I:Inv X pins σ H s):Mod X.K X.mg X.base:=I.ok.mod
theorem Inv.kIn(I:Inv X pins σ H s):X.K.In s.heap:=I.ok.mod.kin.keeps I.bk
theorem Inv.fr(I:Inv X pins σ H s):∃m,Fr X.base X.env.locals s.heap m:=
 let ⟨m,hn,_⟩:=I.loc
 ⟨m,hn,I.bk,QV I.ok.bsz I.ok.above⟩
theorem Inv.lt(I:Inv X pins σ H s):X.env.locals<s.heap.objs.size:=let ⟨_,hn,_⟩:=I.loc;hn.lt
theorem Inv.sz(I:Inv X pins σ H s):X.s₀.heap.objs.size<=s.heap.objs.size:=QV I.ok.above (Zs I.lt)
theorem Inv.nofs(I:Inv X pins σ H s){a:Addr}(h:s.heap.objs.size<=a):a∉X.fs:=λhb=>by
 obtain⟨_,o,ho,_⟩:=I.ok.funs.mem hb;exact absurd (QH (Qi ho) (QV I.sz h)) (Z4 _)
theorem Inv.cne(I:Inv X pins σ H s):∀x c,X.env.cells.lookup x=some c->c≠X.env.locals:=λx c e z=>by
 obtain⟨v,o,ho,hd⟩:=I.cell x c e;obtain⟨m,⟨o',es,ep,ho',hd',_⟩,_⟩:=I.loc;rw[z,ho'] at ho;cases ho;rw[hd'] at hd;cases hd
theorem Inv.funs(I:Inv X pins σ H s):s.heap.FunFrames X.base X.outer:=by
 have all:∀(l:List Env),(∀b∈frs l,b∈X.fs)->X.s₀.heap.FunFrames X.base l->s.heap.FunFrames X.base l:=by
  intro l;induction l with
  |nil=>intro _ _;trivial
  |cons env r ih=>
   intro hs hl;obtain⟨hk,⟨L,o,hf,hn,ho,hd⟩,hr⟩:=hl;have hL:L∈X.fs:=hs L (by unfold frs;rw[Qb9,hf];exact JM);obtain⟨sl,e⟩:=I.base.slot L o ho (I.ok.frf L hL) hL λz=>I.ok.exfs L z hL
   exact⟨hk,⟨L,_,hf,hn,e,hd⟩,ih (λb hb=>hs b (by unfold frs;rw[Qb9,hf];exact Jj _ hb)) hr⟩
 exact all X.outer (λ_ hb=>hb) I.ok.funs
theorem Inv.stack(I:Inv X pins σ H s):s.heap.FunFrames X.base X.stack:=by
 rcases I.ok.stk with e | ⟨e,hf⟩
 ·rw[e];exact I.funs
 ·rw[e];obtain⟨m,hn,_⟩:=I.loc;refine .cons (by rw[I.ok.kind];decide) hf hn ?_ I.funs
  exact Heap.get?_none_of_le (QV I.ok.bsz I.ok.above)
theorem Inv.stkSub(I:Inv X pins σ H s):∀b∈frs X.stack,b∈X.env.locals::X.fs:=λb hb=>by
 rcases I.ok.stk with e | ⟨e,hf⟩
 ·rw[e] at hb;exact Jj _ hb
 ·rw[e] at hb;unfold frs at hb;rw[Qb9,hf] at hb;exact hb
theorem Inv.stkFree(I:Inv X pins σ H s):∀b∈frs X.stack,H b=none:=λb hb=>by
 rcases Qy.mp (I.stkSub b hb) with e | hb
 ·rw[e];exact I.free
 ·obtain⟨_,o,ho,_⟩:=I.ok.funs.mem hb;exact I.base.free b o ho (I.ok.frf b hb) λz=>I.ok.exfs b z hb
theorem Inv.step{g':Array GenState}{t':Nat}{d':Drawn}{ch:List Addr}(I:Inv X pins σ H s)
  (hch:∀b∈ch,(b∈X.ex∨X.s₀.heap.objs.size<=b)/\b≠X.env.locals/\(∀x c,X.env.cells.lookup x=some c->c≠b)/\∀p∈X.pn++pins,p.1≠b)
  (keep:∀b o,b≠X.env.locals->b∉X.fs->b∉ch->s.heap.get? b=some o->H b=none->h'.get? b=some o)
  (slot:∀b o,b≠X.env.locals->b∈X.fs->b∉ch->s.heap.get? b=some o->H b=none->∃sl,h'.get? b=some { o with slots:=sl })(free:∀b o,b∉ch->s.heap.get? b=some o->H b=none->H' b=none)
  (there:∀b o,b∉ch->s.heap.get? b=some o->∃o',h'.get? b=some o')
  (tups:∀b xs,H b=some (.tup xs)->H' b=some (.tup xs))(frzs:∀b o u,H b=some (.frz o u)->H' b=some (.frz o u))(tbls:∀b ps,H b=some (.tbl ps)->∃more,H' b=some (.tbl (ps++more)))
  (ns:∀m,s.heap.Ns X.env.locals m->h'.Ns X.env.locals m)(hok:HOk X.prog X.w H' h')(hg:Qdg g') :
  Inv X pins σ H' { s with heap:=h',gens:=g',drawn:=d',toks:=t' }:=by
 have neL:∀b o,X.s₀.heap.get? b=some o->b≠X.env.locals:=λb o e=>Qu (QH (Qi e) I.ok.above)
 have neC:∀b o,X.s₀.heap.get? b=some o->b∉X.ex->b∉ch:=λb o e hx hb=>by
  rcases(hch b hb).1 with z | z
  ·exact hx z
  ·exact absurd (QH (Qi e) z) (Z4 _)
 have cellK:∀x c,X.env.cells.lookup x=some c->∀v,s.heap.IsCell c v->h'.IsCell c v:=λx c e v ⟨o,ho,hd⟩=>by
  have nch:c∉ch:=λz=>(hch c z).2.2.1 x c e rfl
  by_cases hc:c∈X.fs
  ·obtain⟨sl,q⟩:=slot c o (I.cne x c e) hc nch ho (I.freeC x c e);exact⟨_,q,hd⟩
  ·exact⟨o,keep c o (I.cne x c e) hc nch ho (I.freeC x c e),hd⟩
 refine⟨I.ok,I.os,hg,⟨λb o e n hb hx=>?_,λb o e n hb hx=>?_,λb o e n hx=>?_,λb o e hx=>?_,λb xs e=>tups b xs (I.base.tups b xs e),λb o xs e=>frzs b o xs (I.base.frzs b o xs e),λb ps e=>?_⟩,?_,λx c e=>?_,?_,λx c e=>?_,λp hp=>?_,hok,I.len⟩
 ·exact keep b o (neL b o e) hb (neC b o e hx) (I.base.keep b o e n hb hx) (I.base.free b o e n hx)
 ·obtain⟨sl,e1⟩:=I.base.slot b o e n hb hx;obtain⟨sl',e2⟩:=slot b _ (neL b o e) hb (neC b o e hx) e1 (I.base.free b o e n hx);exact⟨sl',e2⟩
 ·obtain⟨o',e1⟩:=I.base.there b o e hx;exact free b o' (neC b o e hx) e1 (I.base.free b o e n hx)
 ·obtain⟨o',e1⟩:=I.base.there b o e hx;exact there b o' (neC b o e hx) e1
 ·obtain⟨m1,e1⟩:=I.base.tbls b ps e;obtain⟨m2,e2⟩:=tbls b _ e1;exact⟨m1++m2,by rw[e2,Qk4]⟩
 ·obtain⟨m,hn,hl⟩:=I.loc;refine⟨m,ns m hn,λi x v e1 e2 e3=>?_⟩;obtain⟨u,r,l⟩:=hl i x v e1 e2 e3;refine⟨u,r,?_⟩;rcases l with l | ⟨k,c,e,z⟩
  ·exact .inl l
  ·exact .inr ⟨k,c,e,cellK x c e _ z⟩
 ·obtain⟨v,z⟩:=I.cell x c e;exact⟨v,cellK x c e v z⟩
 ·obtain⟨m,⟨o,_,_,ho,_⟩,_⟩:=I.loc;exact free _ o (λz=>(hch _ z).2.1 rfl) ho I.free
 ·obtain⟨v,o,ho,hd⟩:=I.cell x c e;exact free c o (λz=>(hch c z).2.2.1 x c e rfl) ho (I.freeC x c e)
 ·obtain⟨e,n,ne,nf,d⟩:=I.pin p hp;have nch:p.1∉ch:=λz=>(hch p.1 z).2.2.2 p hp rfl
  exact⟨keep p.1 p.2 ne nf nch e n,free p.1 p.2 nch e n,ne,nf,d⟩
theorem Inv.un{t':Nat}(I:Inv X pins σ H s)(u:Un X.fs [] H H' s.heap h')(hok:HOk X.prog X.w H' h'):Inv X pins σ H' { s with heap:=h',toks:=t' }:=by
 obtain⟨m,⟨o,es,ep,ho,r⟩,_⟩:=id I.loc;obtain⟨sl,hL⟩:=u.any ho I.free (by simp);exact I.step (g':=s.gens) (d':=s.drawn) (ch:=[]) (λ_ z=>nomatch z) (λb o _ hb _ e n=>u.keep b o e n hb (by simp)) (λb o _ hb _ e n=>u.slot b o e n hb (by simp)) (λb o _ e n=>u.free b o e n (by simp)) (λb o _ e=>u.there b o e (by simp)) u.tups u.frzs u.tbls (λm' hm=>by
  obtain⟨o',es',ep',ho',r'⟩:=hm;rw[ho] at ho';cases ho';exact⟨_,es',ep',hL,r'⟩) hok I.bare
theorem Inv.call{g':Array GenState}{t':Nat}{d':Drawn}{ch:List Addr}(I:Inv X pins σ H s)(u:Un (frs X.stack) ch H H' s.heap h')(hok:HOk X.prog X.w H' h')(hg:Qdg g')
  (hch:∀b∈ch,(b∈X.ex∨X.s₀.heap.objs.size<=b)/\b≠X.env.locals/\(∀x c,X.env.cells.lookup x=some c->c≠b)/\∀p∈X.pn++pins,p.1≠b) :
  Inv X pins σ H' { s with heap:=h',gens:=g',drawn:=d',toks:=t' }:=by
 obtain⟨m,⟨o,es,ep,ho,r⟩,_⟩:=id I.loc;obtain⟨sl,hL⟩:=u.any ho I.free λz=>(hch _ z).2.1 rfl
 exact I.step (ch:=ch) hch (λb o hL hb hc e n=>u.keep b o e n (λz=>(Qy.mp (I.stkSub b z)).elim hL hb) hc) (λb o _ _ hc e n=>u.any e n hc) (λb o hc e n=>u.free b o e n hc) (λb o hc e=>u.there b o e hc) u.tups u.frzs u.tbls (λm' hm=>by
  obtain⟨o',es',ep',ho',r'⟩:=hm;rw[ho] at ho';cases ho';exact⟨_,es',ep',hL,r'⟩) hok hg
theorem Inv.turned{t':Nat}{it:Addr}(I:Inv X pins σ H s)(k:∀b o,b≠it->s.heap.get? b=some o->h'.get? b=some o)(hn:H it=none)(hL:it≠X.env.locals)
  (h1:it∈X.ex∨X.s₀.heap.objs.size<=it)(h2:∀x c,X.env.cells.lookup x=some c->c≠it)(h3:∀p∈X.pn++pins,p.1≠it):Inv X pins σ H { s with heap:=h',toks:=t' }:=by
 have nit:∀b u,H b=some u->b≠it:=λb u e z=>by rw[z,hn] at e;cases e
 refine I.step (g':=s.gens) (d':=s.drawn) (ch:=[it]) (λb hb=>?_) (λb o _ _ hc e _=>k b o (λz=>hc (by simp[z])) e) (λb o _ _ hc e _=>⟨o.slots,k b o (λz=>hc (by simp[z])) e⟩) (λ_ _ _ _ n=>n)
  (λb o hc e=>⟨o,k b o (λz=>hc (by simp[z])) e⟩) (λ_ _ e=>e) (λ_ _ _ e=>e) (λb ps e=>⟨#[],by rw[e];simp⟩) (λm hm=>?_) (λb u e=>?_) I.bare
 ·have e:b=it:=by simpa using hb
  subst e;exact⟨h1,hL,h2,h3⟩
 ·obtain⟨o,es,ep,ho,r⟩:=hm;exact⟨o,es,ep,k _ o (QaB hL) ho,r⟩
 ·refine(I.hok b u e).stay (λc v hc q=>k c v ?_ q) (λ_ q=>q) λ_ _ q=>q
  rcases hc with z | z
  ·rw[z];exact nit b u e
  ·exact nit c _ z
theorem Inv.tok(I:Inv X pins σ H s)(t:Nat):Inv X pins σ H { s with toks:=t }:=I.un (h':=s.heap) (t':=t) Un.refl I.hok
theorem Inv.kept{t':Nat}(I:Inv X pins σ H s)(k:∀b u,s.heap.get? b=some u->h'.get? b=some u):Inv X pins σ H { s with heap:=h',toks:=t' }:=I.un (Un.kept k) (I.hok.kept k)
theorem Inv.laid{a:Addr}{o:HO}{t':Nat}(I:Inv X pins σ H s)(k:∀b u,s.heap.get? b=some u->h'.get? b=some u)(hp:s.heap.objs.size<=a)(new:ObjOk X.prog X.w (upd H a o) h' a o) :
  Inv X pins σ (upd H a o) { s with heap:=h',toks:=t' }:=I.un (Un.laid k hp (I.hok.fresh hp)) (I.hok.laid k hp new)
theorem Inv.write{x e:Addr}{o:HO}{t':Nat}(I:Inv X pins σ H s)(mu:Mut (H x))(he:e=x∨H e=some (.own x))(k:∀b u,b≠e->s.heap.get? b=some u->h'.get? b=some u)(heo:∃u,h'.get? e=some u)
  (new:ObjOk X.prog X.w (upd H x o) h' x o):Inv X pins σ (upd H x o) { s with heap:=h',toks:=t' }:=I.un (Un.write mu he k heo) (I.hok.write mu he k heo new)
theorem Inv.weak{σ':List (Option V)}(I:Inv X pins σ H s)(hl:σ'.length=σ.length)(w:∀(i:Nat) v,σ'[i]? = some (some v)->σ[i]? = some (some v)):Inv X pins σ' H s:=
 ⟨I.ok,I.os,I.bare,I.base,let ⟨m,hn,hl'⟩:=I.loc;⟨m,hn,λi x v e1 e2 e3=>hl' i x v e1 (w i v e2) e3⟩,I.cell,I.free,I.freeC,I.pin,I.hok,hl.trans I.len⟩
theorem Inv.pins_of{pins':List (Addr×Obj)}(I:Inv X pins σ H s)(h:∀p∈pins',s.heap.get? p.1=some p.2/\H p.1=none/\p.1≠X.env.locals/\p.1∉X.fs/\∀v,p.2.data≠.cell v):Inv X pins' σ H s:=
 ⟨I.ok,I.os,I.bare,I.base,I.loc,I.cell,I.free,I.freeC,λp hp=>(J1.mp hp).elim (λz=>I.pin p (QbD _ z)) (h p),I.hok,I.len⟩
theorem QgX{N:List Str}(hN:N.Nodup){i j:Nat}{x:Str}(a:N[i]? = some x)(b:N[j]? = some x):i=j:=by
 obtain⟨h1,e1⟩:=Qr.mp a;obtain⟨h2,e2⟩:=Qr.mp b;exact(List.getElem_inj hN).mp (e1.trans e2.symm)
theorem Qe1{M:Model}{A:Q6}{E:Value->Shared->Prop}{i:Nat}{x:Str}{v:V}{u:Value}{Q:Unit->Shared->Prop}(I:Inv X pins σ H s)(hN:X.N.Nodup)(hi:X.N[i]? = some x)(hx:Loc X.env.scope x)(r:RelV v u)
  (h:∀s',Inv X pins (σ.set i (some v)) H s'->(∃a,Qbi a s.heap s'.heap/\(a=X.env.locals∨X.env.cells.lookup x=some a))->Q () s')(hf:X.fn x=true∨X.env.scope.names.lookup x=some .local:=by first | exact .inl rfl | exact .inr rfl | assumption):wpAny M A (storeName X.env x u) Q E s:=by
 obtain⟨m,hn,hl⟩:=id I.loc;have hcls:(X.env.scope.kind == .class||(X.env.scope.kind == .module&&X.env.locals != X.env.globals))=false:=by rw[I.ok.kind];rfl
 have hiσ:i < σ.length:=by rw[I.len];exact(Qr.mp hi).1
 have cne:=I.cne;have tracked:∀{a:Addr}{h':JU},(∃o,s.heap.get? a=some o/\H a=none)->Qbi a s.heap h'->HOk X.prog X.w H h':=λ{a h'} ha hs b ob e=>by
  obtain⟨_,_,hfree⟩:=ha;refine(I.hok b ob e).stay (λc w' hc q=>(hs.2 c ?_).trans q) (λ_ q=>q) λ_ _ q=>q
  rintro rfl;rcases hc with rfl | hc
  ·rw[hfree] at e;cases e
  ·rw[hfree] at hc;cases hc
 rcases hx with hk | hk
 ·refine wpAny_storeName_local hk hn (λh' hn' hs=>?_) hcls;obtain⟨oL,_,_,hoL,_⟩:=id hn;refine h _ ⟨I.ok,I.os,I.bare,⟨λb o e n hb hx=>?_,λb o e n hb hx=>?_,I.base.free,λb o e hx=>?_,I.base.tups,I.base.frzs,I.base.tbls⟩,⟨_,hn',λj y v' e1 e2 e3=>?_⟩,λy c e=>?_,I.free,I.freeC,λp hp=>?_,tracked ⟨oL,hoL,I.free⟩ hs,by simpa using I.len⟩ ⟨_,hs,.inl rfl⟩
  ·exact(hs.2 b (Qu (QH (Qi e) I.ok.above))).trans (I.base.keep b o e n hb hx)
  ·obtain⟨sl,e1⟩:=I.base.slot b o e n hb hx;exact⟨sl,(hs.2 b (Qu (QH (Qi e) I.ok.above))).trans e1⟩
  ·obtain⟨o',e1⟩:=I.base.there b o e hx;exact⟨o',(hs.2 b (Qu (QH (Qi e) I.ok.above))).trans e1⟩
  ·by_cases hj:j=i
   ·subst hj;rw[hi] at e1;cases e1;rw[JS hiσ] at e2;cases e2;exact⟨u,r,.inl ⟨hk,by simp⟩⟩
   ·rw[QbF (QaB hj)] at e2;obtain⟨u',r',q⟩:=hl j y v' e1 e2 e3;refine⟨u',r',?_⟩;rcases q with⟨k,e⟩ | ⟨k,c,e,z⟩
    ·refine .inl ⟨k,?_⟩;have:y≠x:=λe=>hj (QgX hN e1 (e ▸ hi))
     simp[this,e]
    ·exact .inr ⟨k,c,e,z.sameBut hs (cne y c e)⟩
  ·obtain⟨w',z⟩:=I.cell y c e;exact⟨w',z.sameBut hs (cne y c e)⟩
  ·obtain⟨e,n,ne,nf,d⟩:=I.pin p hp;exact⟨(hs.2 p.1 ne).trans e,n,ne,nf,d⟩
 ·have hfn:X.fn x=true:=by
   rcases hf with z | z
   ·exact z
   ·rw[z] at hk;cases hk
  obtain⟨c,hc⟩:=I.ok.has x (.inl hk);obtain⟨w',z⟩:=I.cell x c hc;refine wpAny_storeName_cell I.ok.kind hk hc z (λh' hc' hs=>?_);obtain⟨oc,hoc,hocd⟩:=id z;refine h { s with heap:=h' } ⟨I.ok,I.os,I.bare,⟨λb o e n hb hx=>?_,λb o e n hb hx=>?_,I.base.free,λb o e hx=>?_,I.base.tups,I.base.frzs,I.base.tbls⟩,⟨m,hn.sameBut hs (QaB (cne x c hc)),λj y v' e1 e2 e3=>?_⟩,λy c' e=>?_,I.free,I.freeC,λp hp=>?_,tracked ⟨oc,hoc,I.freeC x c hc⟩ hs,by simpa using I.len⟩ ⟨c,hs,.inr hc⟩
  ·exact(hs.2 b (Qu (QH (Qi e) (I.ok.cab x c hfn hc)))).trans (I.base.keep b o e n hb hx)
  ·obtain⟨sl,e1⟩:=I.base.slot b o e n hb hx;exact⟨sl,(hs.2 b (Qu (QH (Qi e) (I.ok.cab x c hfn hc)))).trans e1⟩
  ·obtain⟨o',e1⟩:=I.base.there b o e hx;exact⟨o',(hs.2 b (Qu (QH (Qi e) (I.ok.cab x c hfn hc)))).trans e1⟩
  ·by_cases hj:j=i
   ·subst hj;rw[hi] at e1;cases e1;rw[JS hiσ] at e2;cases e2;exact⟨u,r,.inr ⟨.inl hk,c,hc,hc'⟩⟩
   ·rw[QbF (QaB hj)] at e2;obtain⟨u',r',q⟩:=hl j y v' e1 e2 e3;refine⟨u',r',?_⟩;rcases q with q | ⟨k,c',e,z'⟩
    ·exact .inl q
    ·refine .inr ⟨k,c',e,z'.sameBut hs ?_⟩;rintro rfl;exact hj (QgX hN e1 (I.ok.inj _ _ _ e hc ▸ hi))
  ·by_cases hcc:c'=c
   ·subst hcc;exact⟨_,hc'⟩
   ·obtain⟨w2,z2⟩:=I.cell y c' e;exact⟨w2,z2.sameBut hs hcc⟩
  ·obtain⟨e,n,ne,nf,d⟩:=I.pin p hp;refine⟨(hs.2 p.1 ?_).trans e,n,ne,nf,d⟩;intro q;rw[q,hoc] at e;have q':oc=p.2:=Qq e;exact d w' (by rw[<- q'];exact hocd)
theorem QgD{M:Model}{A:Q6}{E:Value->Shared->Prop}{i:Nat}{x:Str}{v:V}{u:Value}{Q:Unit->Shared->Prop}(I:Inv X pins σ H s)(hN:X.N.Nodup)(hi:X.N[i]? = some x)(hx:Loc X.env.scope x)(r:RelV v u)
  (h:∀s',Inv X pins (σ.set i (some v)) H s'->Q () s')(hf:X.fn x=true∨X.env.scope.names.lookup x=some .local:=by first | exact .inl rfl | exact .inr rfl | assumption):wpAny M A (storeName X.env x u) Q E s:=
 Qe1 I hN hi hx r (λs' I' _=>h s' I') hf
theorem Inv.call'{s':Shared}{ch:List Addr}(I:Inv X pins σ H s)(ho:s'.os=s.os)(u:Un (frs X.stack) ch H H' s.heap s'.heap)(hok:HOk X.prog X.w H' s'.heap)(hg:Qdg s'.gens)
  (hch:∀b∈ch,(b∈X.ex∨X.s₀.heap.objs.size<=b)/\b≠X.env.locals/\(∀x c,X.env.cells.lookup x=some c->c≠b)/\∀p∈X.pn++pins,p.1≠b):Inv X pins σ H' s':=by
 obtain⟨h',g',d',t',o'⟩:=s';have e:o'=s.os:=ho;subst e;exact I.call (g':=g') (t':=t') (d':=d') u hok hg hch
end
abbrev XK:=Value->Option Addr->Hp->Prop
abbrev St:=List (Option V)
abbrev VK:=V->Hp->Prop
abbrev TE:=St->Hp->VK->Prop
abbrev TT:=St->Hp->(Bool->Hp->Prop)->Prop
abbrev TA:=St->Hp->(List V->Hp->Prop)->Prop
structure Ends where
 nx:St->Hp->Prop
 rt:VK
 bk:St->Hp->Prop:=λ_ _=>False
 ct:St->Hp->Prop:=λ_ _=>False
abbrev TS:=Ends->St->Hp->Prop
def EP(X:Cx)(pins:List (Addr×Obj))(σ:St)(Q:VK)(u:Value)(s':Shared):Prop:=∃v H',Inv X pins σ H' s'/\RelV v u/\Q v H'
def TP(X:Cx)(pins:List (Addr×Obj))(σ:St)(Q:Bool->Hp->Prop)(b:Bool)(s':Shared):Prop:=∃H',Inv X pins σ H' s'/\Q b H'
def AP(X:Cx)(pins:List (Addr×Obj))(σ:St)(Q:List V->Hp->Prop)(us:List Value)(s':Shared):Prop:=∃vs H',Inv X pins σ H' s'/\Vals vs us/\Q vs H'
def SP(X:Cx)(pins:List (Addr×Obj))(D:Ends)(f:Flow)(s':Shared):Prop:=
 match f with
 |.next=>∃σ' H',Inv X pins σ' H' s'/\D.nx σ' H'
 |.brk=>∃σ' H',Inv X pins σ' H' s'/\D.bk σ' H'
 |.cont=>∃σ' H',Inv X pins σ' H' s'/\D.ct σ' H'
 |.ret u=>∃v σ' H',Inv X pins σ' H' s'/\RelV v u/\D.rt v H'
def PE(X:Cx)(e:QM)(t:TE):Prop:=
 ∀(pins:List (Addr×Obj))(s:Shared)(σ:St)(H:Hp)(Q:VK),Inv X pins σ H s->t σ H Q->wpAny (model X.prog X.w) X.A (eval e X.env) (EP X pins σ Q) X.xe s
def PT(X:Cx)(e:QM)(t:TT):Prop:=
 ∀(pins:List (Addr×Obj))(s:Shared)(σ:St)(H:Hp)(Q:Bool->Hp->Prop),Inv X pins σ H s->t σ H Q->wpAny (model X.prog X.w) X.A (isTrue e X.env (eval e X.env)) (TP X pins σ Q) X.xe s
def PW(X:Cx)(e:QM)(t:TT):Prop:=
 ∀(whole:Sem Value)(pins:List (Addr×Obj))(s:Shared)(σ:St)(H:Hp)(Q:Bool->Hp->Prop),Inv X pins σ H s->t σ H Q->wpAny (model X.prog X.w) X.A (isTrue e X.env whole) (TP X pins σ Q) X.xe s
theorem PW.pt{X:Cx}{e:QM}{t:TT}(h:PW X e t):PT X e t:=h _
def PA(X:Cx)(es:List QM)(t:TA):Prop:=
 ∀(pos:Pos)(pins:List (Addr×Obj))(s:Shared)(σ:St)(H:Hp)(Q:List V->Hp->Prop),Inv X pins σ H s->t σ H Q->wpAny (model X.prog X.w) X.A (spliced (backTo pos (starEach es X.env))) (AP X pins σ Q) X.xe s
def PS(X:Cx)(st:ZH)(t:TS):Prop:=
 ∀(pins:List (Addr×Obj))(s:Shared)(σ:St)(H:Hp)(D:Ends),Inv X pins σ H s->t D σ H->wpAny (model X.prog X.w) X.A (exec st X.env) (SP X pins D) X.xe s
def PSs(X:Cx)(st:List ZH)(t:TS):Prop:=
 ∀(pins:List (Addr×Obj))(s:Shared)(σ:St)(H:Hp)(D:Ends),Inv X pins σ H s->t D σ H->wpAny (model X.prog X.w) X.A (execs st X.env) (SP X pins D) X.xe s
theorem thn{α:Type}{t:Sem α}{Q Q':α->Shared->Prop}{M:Model}{A:Q6}{E:Value->Shared->Prop}{s:Shared}(h:wpAny M A t Q E s)(hQ:∀a s,Q a s->Q' a s):wpAny M A t Q' E s:=wpAny_mono h hQ λ_ _ x=>x
section
variable{X:Cx}
def QgB(i:Nat):TE:=λσ H Q=>∃v,σ[i]? = some (some v)/\Q v H
def tC(v:V):TE:=λ_ H Q=>Q v H
theorem Qje{i:Nat}{x:Str}{pos:Pos}(hN:X.N[i]? = some x)(hv:Vis X.env.scope x)(hd:(x == ("__debug__" : Str))=false:=by decide)(hcd:(x == ("__classdict__" : Str))=false:=by decide):PE X (.Name x pos) (QgB i):=by
 intro pins s σ H Q I h;obtain⟨v,e,h⟩:=h;obtain⟨m,hn,hl⟩:=I.loc;obtain⟨u,r,l⟩:=hl i x v hN e hv;have fin:EP X pins σ Q u s:=⟨v,H,I,r,h⟩;rcases l with⟨hk,hm⟩ | ⟨hk,c,hc,hcell⟩
 ·exact QtH (wpAny_loadName_local I.ok.kind hk hn hm fin) hd
 ·rcases hk with hk | hk
  ·exact QtH (wpAny_loadName_cell I.ok.kind hk hc hcell fin) hd
  ·exact QtH (wpAny_loadName_free I.ok.kind hk hc hcell fin hcd) hd
theorem Ya{i j pos}:PE X (.Constant (.int i) j pos) (tC (.int i)):=λ_ _ _ H _ I h=>wpAny_Constant_int ⟨.int i,H,I.tok _,⟨_,rfl⟩,h⟩
theorem QrZ{b j pos}:PE X (.Constant (.bool b) j pos) (tC (.bl b)):=λ_ _ _ H _ I h=>Constant_bool ⟨.bl b,H,I,rfl,h⟩
theorem Qjf{j pos}:PE X (.Constant .none j pos) (tC .non):=λ_ _ _ H _ I h=>Constant_none ⟨.non,H,I,rfl,h⟩
def Gl(X:Cx)(x:Str):Prop:=X.env.kindOf x=some .globalImplicit
theorem Qf9{E:Value->Shared->Prop}{pins:List (Addr×Obj)}{s:Shared}{σ:St}{H:Hp}{x:Str}{u:Value}{pos:Pos}{Q:Value->Shared->Prop}(I:Inv X pins σ H s)(hg:Gl X x)(hm:X.mg x=some u)(h:Q u s)
  (hd:(x == ("__debug__" : Str))=false:=by decide):wpAny (model X.prog X.w) X.A (eval (.Name x pos) X.env) Q E s:=
 QeM I.ok.kind hg (Calls.loadGlobal_global (by rw[I.ok.glob];exact I.mod.glob.keeps I.bk) hm h) hd
theorem Qbw{E:Value->Shared->Prop}{pins:List (Addr×Obj)}{s:Shared}{σ:St}{H:Hp}{x:Str}{u:Value}{pos:Pos}{Q:Value->Shared->Prop}(I:Inv X pins σ H s)(hg:Gl X x)(hm:X.mg x=none)(hv:bootBuiltins x=some u)(h:Q u s)
  (hn:x ≠ "__name__" := by decide)(hd:(x == ("__debug__" : Str))=false:=by decide):wpAny (model X.prog X.w) X.A (eval (.Name x pos) X.env) Q E s:=by
 obtain⟨mb,h1,h2⟩:=I.mod.blt;exact QeM I.ok.kind hg (Calls.loadGlobal_builtin (by rw[I.ok.glob];exact I.mod.glob.keeps I.bk) hm (by rw[I.ok.blt];exact h1.keeps I.bk) ((h2 x hn).trans hv) h) hd
theorem QoA{x:Str}{v:V}{u:Value}{pos:Pos}(hg:Gl X x)(hm:X.mg x=some u)(r:RelV v u)(hd:(x == ("__debug__" : Str))=false:=by decide):PE X (.Name x pos) (tC v):=
 λ_ _ _ H _ I h=>Qf9 I hg hm ⟨v,H,I,r,h⟩ hd
theorem Yz{x:Str}{v:V}{u:Value}{pos:Pos}(hg:Gl X x)(hm:X.mg x=none)(hv:bootBuiltins x=some u)(r:RelV v u)(hn:x ≠ "__name__" := by decide)(hd:(x == ("__debug__" : Str))=false:=by decide):PE X (.Name x pos) (tC v):=
 λ_ _ _ H _ I h=>Qbw I hg hm hv ⟨v,H,I,r,h⟩ hn hd
variable{a b:QM}{ta tb:TE}{pos:Pos}
def tB(t:TE):TT:=λσ H Q=>t σ H λx H1=>∃c,x=.bl c/\Q c H1
theorem QgN{e:QM}{t:TE}(h:PE X e t)(he:∀whole,isTrue e X.env whole=(do let v <- whole;standAt e.pos;holding [v] (truthy v)):=by intro _;rfl):PT X e (tB t):=by
 intro pins s σ H Q I hw;refine isTrue_plain (thn (h pins s σ H _ I hw) λv s1 ⟨x,H1,I1,r1,q1⟩=>?_) (he _);obtain⟨d,rfl,q⟩:=q1;cases r1;exact Jp ⟨H1,I1,q⟩
variable{tA tB':TT}{rest:List QM}
def QvM(t u:TT):TT:=λσ H Q=>t σ H λc H1=>if c=true then u σ H1 Q else Q false H1
def tOr(t u:TT):TT:=λσ H Q=>t σ H λc H1=>if c=true then Q true H1 else u σ H1 Q
def QvJ(t:TT):TT:=λσ H Q=>t σ H λc H1=>Q (!c) H1
theorem Qoq(ha:PT X a tA):PW X (.BoolOp .And [a] pos) tA:=by
 intro wh pins s σ H Q I h;refine isTrue_and (thn (ha pins s σ H Q I h) λc s1 e=>?_);cases c with
 |true=>exact isTrue_and_nil e
 |false=>exact e
theorem Qnn(ha:PT X a tA):PW X (.BoolOp .Or [a] pos) tA:=by
 intro wh pins s σ H Q I h;refine isTrue_or (thn (ha pins s σ H Q I h) λc s1 e=>?_);cases c with
 |false=>exact isTrue_or_nil e
 |true=>exact e
theorem QrT(ha:PT X a tA)(hb:PW X (.BoolOp .And (b::rest) pos) tB'):PW X (.BoolOp .And (a::b::rest) pos) (QvM tA tB'):=by
 intro wh pins s σ H Q I h;refine isTrue_and (thn (ha pins s σ H _ I h) λc s1 ⟨H1,I1,q1⟩=>?_);cases c with
 |true=>exact hb wh pins s1 σ H1 Q I1 q1
 |false=>exact⟨H1,I1,q1⟩
theorem QrS(ha:PT X a tA)(hb:PW X (.BoolOp .Or (b::rest) pos) tB'):PW X (.BoolOp .Or (a::b::rest) pos) (tOr tA tB'):=by
 intro wh pins s σ H Q I h;refine isTrue_or (thn (ha pins s σ H _ I h) λc s1 ⟨H1,I1,q1⟩=>?_);cases c with
 |true=>exact⟨H1,I1,q1⟩
 |false=>exact hb wh pins s1 σ H1 Q I1 q1
theorem QrU(ha:PT X a tA):PT X (.UnaryOp .Not a pos) (QvJ tA):=by
 intro pins s σ H Q I h;exact isTrue_not (ha pins s σ H (λc H1=>Q (!c) H1) I h)
def Qub(ta tb:TE):TE:=λσ H Q=>ta σ H λx H1=>∃c,x=.bl c/\if c=true then tb σ H1 Q else Q (.bl false) H1
def QvI(ta tb:TE):TE:=λσ H Q=>ta σ H λx H1=>∃c,x=.bl c/\if c=true then Q (.bl true) H1 else tb σ H1 Q
def Qt8(ta:TE):TE:=λσ H Q=>ta σ H λx H1=>∃c,x=.bl c/\Q (.bl (!c)) H1
theorem Qdw{op}{t:TE}(h:PE X a t):PE X (.BoolOp op [a] pos) t:=λpins s σ H Q I hw=>BoolOp_one (h pins s σ H Q I hw)
theorem Qdx(ha:PE X a ta)(hb:PE X (.BoolOp .And (b::rest) pos) tb):PE X (.BoolOp .And (a::b::rest) pos) (Qub ta tb):=by
 intro pins s σ H Q I h;refine BoolOp_and (thn (ha pins s σ H _ I h) λv s1 ⟨x,H1,I1,r1,q1⟩=>?_);obtain⟨c,rfl,q1⟩:=q1;cases r1;refine Jp ?_
 cases c with
 |true=>exact hb pins s1 σ H1 Q I1 q1
 |false=>exact⟨.bl false,H1,I1,rfl,q1⟩
theorem Quq(ha:PE X a ta)(hb:PE X (.BoolOp .Or (b::rest) pos) tb):PE X (.BoolOp .Or (a::b::rest) pos) (QvI ta tb):=by
 intro pins s σ H Q I h;refine BoolOp_or (thn (ha pins s σ H _ I h) λv s1 ⟨x,H1,I1,r1,q1⟩=>?_);obtain⟨c,rfl,q1⟩:=q1;cases r1;refine Jp ?_
 cases c with
 |false=>exact hb pins s1 σ H1 Q I1 q1
 |true=>exact⟨.bl true,H1,I1,rfl,q1⟩
theorem Qnu(ha:PE X a ta):PE X (.UnaryOp .Not a pos) (Qt8 ta):=by
 intro pins s σ H Q I h;refine UnaryOp_ (thn (ha pins s σ H _ I h) λv s1 ⟨x,H1,I1,r1,q1⟩=>?_);obtain⟨c,rfl,q1⟩:=q1;cases r1;exact not_of (Jp ⟨.bl (!c),H1,I1,rfl,q1⟩)
def tIf(t:TT)(ta tb:TE):TE:=λσ H Q=>t σ H λc H1=>if c=true then ta σ H1 Q else tb σ H1 Q
theorem QlS{c:QM}(hc:PT X c tA)(ha:PE X a ta)(hb:PE X b tb):PE X (.IfExp c a b pos) (tIf tA ta tb):=by
 intro pins s σ H Q I h;refine wpAny_IfExp (thn (hc pins s σ H _ I h) λd s1 ⟨H1,I1,q1⟩=>?_);cases d with
 |true=>exact ha pins s1 σ H1 Q I1 q1
 |false=>exact hb pins s1 σ H1 Q I1 q1
end
def SqL(K:PySem.W.Frag)(H:Hp)(a:Addr)(xs:List V):Prop:=
 Rd H a (.lst xs) ∨
  ∃(o:Obj)(its:Array Value)(n:Nat),K.lookup a=some o/\o.cls=.type "list" /\ o.dict=none/\o.data=.seq its n/\its.size<=sizeLine/\Vals xs its.toList
def SqT(K:PySem.W.Frag)(H:Hp)(a:Addr)(xs:List V):Prop:=
 Rd H a (.tup xs) ∨
  ∃(o:Obj)(its:Array Value)(n:Nat),K.lookup a=some o/\o.cls=.type "tuple" /\ o.data=.seq its n/\its.size<=sizeLine/\Vals xs its.toList
def Qv8:Value->Option V
 |.none=>some .non
 |.bool b=>some (.bl b)
 |.int i _=>some (.int i)
 |.str x _=>some (.str x)
 |.bytes b _=>some (.byt b)
 |.float b _=>some (.flt b)
 |.ref a=>some (.ref a)
 |.type n=>some (.ty n)
 |_=>none
theorem RelV.abs{x:V}{u:Value}(r:RelV x u):Qv8 u=some x:=by
 cases x with
 |non=>cases r;rfl
 |bl _=>cases r;rfl
 |int _=>obtain⟨t,rfl⟩:=r;rfl
 |str _=>obtain⟨t,rfl⟩:=r;rfl
 |byt _=>obtain⟨t,rfl⟩:=r;rfl
 |flt _=>obtain⟨t,rfl⟩:=r;rfl
 |ref _=>cases r;rfl
 |ty _=>cases r;rfl
theorem RelV.inj{x y:V}{u:Value}(r:RelV x u)(q:RelV y u):x=y:=Qq (r.abs.symm.trans q.abs)
theorem Vals.inj:∀{xs ys:List V}{us:List Value},Vals xs us->Vals ys us->xs=ys
 |_,_,_,.nil,.nil=>rfl
 |_,_,_,.cons r t,.cons r' t'=>by rw[r.inj r',Vals.inj t t']
section
variable{X:Cx}{pins:List (Addr×Obj)}{σ:St}{H:Hp}{s:Shared}{a:Addr}{xs ys:List V}
theorem SqL.of{K:PySem.W.Frag}(h:H a=some (.lst xs)):SqL K H a xs:=.inl (.inl h)
theorem SqT.of{K:PySem.W.Frag}(h:H a=some (.tup xs)):SqT K H a xs:=.inl (.inl h)
theorem Inv.list(I:Inv X pins σ H s)(h:SqL X.K H a xs):∃its:List Value,Vals xs its/\PlainL s.heap a its.toArray/\xs.length<=sizeLine:=by
 rcases h with h | ⟨o,its,n,hk,hc,hd,hs,hz,r⟩
 ·obtain⟨z,its,n,r,e⟩:=h.ok I.hok;exact⟨its,r,⟨_,n,e,rfl,rfl,rfl⟩,z⟩
 ·refine⟨its.toList,r,⟨o,n,I.kIn a o hk,hc,hd,by simpa using hs⟩,?_⟩;have e:=r.length;simp only[Zz] at e;omega
theorem Inv.tuple(I:Inv X pins σ H s)(h:SqT X.K H a xs):∃its:List Value,Vals xs its/\QtZ s.heap a its.toArray/\xs.length<=sizeLine:=by
 rcases h with h | ⟨o,its,n,hk,hc,hs,hz,r⟩
 ·obtain⟨z,its,r,p⟩:=h.ok I.hok;exact⟨its,r,p.tup,z⟩
 ·refine⟨its.toList,r,⟨o,I.kIn a o hk,hc,n,by simpa using hs⟩,?_⟩;have e:=r.length;simp only[Zz] at e;omega
theorem Inv.list_inj(I:Inv X pins σ H s)(h:SqL X.K H a xs)(h':SqL X.K H a ys):xs=ys:=by
 obtain⟨its,r,⟨o,n,e,_,_,d⟩,_⟩:=I.list h;obtain⟨its',r',⟨o',n',e',_,_,d'⟩,_⟩:=I.list h';rw[e] at e';cases e';rw[d] at d';injection d' with d1 _
 have:its=its':=by simpa using congrArg Qts d1
 subst this;exact r.inj r'
theorem Inv.tuple_inj(I:Inv X pins σ H s)(h:SqT X.K H a xs)(h':SqT X.K H a ys):xs=ys:=by
 obtain⟨its,r,⟨o,e,_,n,d⟩,_⟩:=I.tuple h;obtain⟨its',r',⟨o',e',_,n',d'⟩,_⟩:=I.tuple h';rw[e] at e';cases e';rw[d] at d';injection d' with d1 _
 have:its=its':=by simpa using congrArg Qts d1
 subst this;exact r.inj r'
end
abbrev Cx.wish (X:Cx) (E:Value->Shared->Prop):Cx:={ X with xe:=E }
abbrev Cx.nox (X:Cx):Cx:=X.wish λ_ _=>False
theorem Cx.Ok.wish{X:Cx}(ok:X.Ok)(E:Value->Shared->Prop):(X.wish E).Ok:=
 ⟨ok.mod,ok.kind,ok.glob,ok.blt,ok.above,ok.inj,ok.has,ok.cab,ok.hd,ok.frames,ok.stk,ok.exf,ok.bs,ok.bsz,ok.noex,ok.exfs,ok.funs,ok.frf⟩
theorem Cx.Ok.unwish{X:Cx}{E:Value->Shared->Prop}(ok:(X.wish E).Ok):X.Ok:=
 ⟨ok.mod,ok.kind,ok.glob,ok.blt,ok.above,ok.inj,ok.has,ok.cab,ok.hd,ok.frames,ok.stk,ok.exf,ok.bs,ok.bsz,ok.noex,ok.exfs,ok.funs,ok.frf⟩
section
variable{X:Cx}{pins:List (Addr×Obj)}{σ:St}{H:Hp}{s:Shared}{E:Value->Shared->Prop}
theorem Inv.wish(I:Inv X pins σ H s)(E:Value->Shared->Prop):Inv (X.wish E) pins σ H s:=⟨I.ok.wish E,I.os,I.bare,I.base,I.loc,I.cell,I.free,I.freeC,I.pin,I.hok,I.len⟩
theorem Inv.unwish(I:Inv (X.wish E) pins σ H s):Inv X pins σ H s:=⟨I.ok.unwish,I.os,I.bare,I.base,I.loc,I.cell,I.free,I.freeC,I.pin,I.hok,I.len⟩
theorem SP.unwish{D:Ends}{f:Flow}{s':Shared}(h:SP (X.wish E) pins D f s'):SP X pins D f s':=by
 cases f with
 |next=>obtain⟨σ',H',I,q⟩:=h;exact⟨σ',H',I.unwish,q⟩
 |brk=>obtain⟨σ',H',I,q⟩:=h;exact⟨σ',H',I.unwish,q⟩
 |cont=>obtain⟨σ',H',I,q⟩:=h;exact⟨σ',H',I.unwish,q⟩
 |ret u=>obtain⟨v,σ',H',I,r,q⟩:=h;exact⟨v,σ',H',I.unwish,r,q⟩
theorem PE.nox{e:QM}{t:TE}(h:PE X.nox e t):PE X e t:=λpins s σ H Q I hw=>
 wpAny_mono (h pins s σ H Q (I.wish _) hw) (λ_ _ ⟨v,H',I',r,q⟩=>⟨v,H',I'.unwish,r,q⟩) λ_ _ z=>J6 z
theorem PT.nox{e:QM}{t:TT}(h:PT X.nox e t):PT X e t:=λpins s σ H Q I hw=>
 wpAny_mono (h pins s σ H Q (I.wish _) hw) (λ_ _ ⟨H',I',q⟩=>⟨H',I'.unwish,q⟩) λ_ _ z=>J6 z
theorem PSs.nox{st:List ZH}{t:TS}(h:PSs X.nox st t):PSs X st t:=λpins s σ H D I hw=>
 wpAny_mono (h pins s σ H D (I.wish _) hw) (λ_ _ q=>q.unwish) λ_ _ z=>J6 z
end
section
variable{X:Cx}{st:ZH}{rest:List ZH}{t u:TS}{e:QM}{te:TE}{pos:Pos}
def Qt9:TS:=λD σ H=>D.nx σ H
def QvG(t u:TS):TS:=λD σ H=>t { D with nx:=u D } σ H
theorem QaI:PSs X [] Qt9:=λ_ _ σ H _ I h=>Qcg ⟨σ,H,I,h⟩
theorem ZD(h1:PS X st t)(h2:PSs X rest u):PSs X (st::rest) (QvG t u):=by
 intro pins s σ H D I h;refine wpAny_execs_cons (thn (h1 pins s σ H { D with nx:=u D } I h) λf s1 q=>?_);cases f with
 |next=>
  obtain⟨σ',H',I',q⟩:=q;exact h2 pins s1 σ' H' D I' q
 |ret v=>exact q
 |brk=>exact q
 |cont=>exact q
theorem Yi(h1:PS X st t):PSs X [st] t:=by
 intro pins s σ H D I h;refine wpAny_execs_cons (thn (h1 pins s σ H D I h) λf s1 q=>?_);cases f with
 |next=>exact Qcg q
 |ret v=>exact q
 |brk=>exact q
 |cont=>exact q
theorem Inv.quiet{pins:List (Addr×Obj)}{σ:St}{H:Hp}{s:Shared}(I:Inv X pins σ H s):interactive X.env=false:=by simp[interactive,I.ok.kind]
def Qlm(te:TE):TS:=λD σ H=>te σ H λ_ H1=>D.nx σ H1
theorem QfX(he:PE X e te)(hs:swapsWith e none pos.line X.env=pure false:=by rfl):PS X (.Expr e pos) (Qlm te):=by
 intro pins s σ H D I h;exact wpAny_Expr_any (thn (he pins s σ H _ I h) λv s1 ⟨x,H1,I1,r1,q1⟩=>⟨σ,H1,I1,q1⟩) I.quiet hs
def QvH(te:TE):TS:=λD σ H=>te σ H D.rt
theorem YM(he:PE X e te):PS X (.Return (some e) pos) (QvH te):=by
 intro pins s σ H D I h;exact wpAny_Return_some (thn (he pins s σ H _ I h) λv s1 ⟨x,H1,I1,r1,q1⟩=>⟨x,σ,H1,I1,r1,q1⟩)
def QvL(c:TT)(t u:TS):TS:=λD σ H=>c σ H λb H1=>if b=true then t D σ H1 else u D σ H1
theorem Qfa{c:QM}{a b:List ZH}{tc:TT}(hc:PT X c tc)(ha:PSs X a t)(hb:PSs X b u):PS X (.If c a b pos) (QvL tc t u):=by
 intro pins s σ H D I h;refine wpAny_If (thn (hc pins s σ H _ I h) λd s1 ⟨H1,I1,q1⟩=>?_);cases d with
 |true=>exact ha pins s1 σ H1 D I1 q1
 |false=>exact hb pins s1 σ H1 D I1 q1
end
abbrev TG:=V->St->Hp->(St->Hp->Prop)->Prop
abbrev TGs:=List V->St->Hp->(St->Hp->Prop)->Prop
def PG(X:Cx)(target:QM)(t:TG):Prop:=
 ∀(pins:List (Addr×Obj))(s:Shared)(σ:St)(H:Hp)(v:V)(u:Value)(Q:St->Hp->Prop),Inv X pins σ H s->RelV v u->t v σ H Q ->
  wpAny (model X.prog X.w) X.A (assign target X.env u) (λ_ s'=>∃σ' H',Inv X pins σ' H' s'/\Q σ' H') X.xe s
def PGs(X:Cx)(ts:List QM)(t:TGs):Prop:=
 ∀(pins:List (Addr×Obj))(s:Shared)(σ:St)(H:Hp)(vs:List V)(us:List Value)(Q:St->Hp->Prop),Inv X pins σ H s->Vals vs us->t vs σ H Q ->
  wpAny (model X.prog X.w) X.A (assignInOrder ((assignEach ts X.env).map (·.2)) us) (λ_ s'=>∃σ' H',Inv X pins σ' H' s'/\Q σ' H') X.xe s
abbrev TSet:=V->V->V->Hp->(Hp->Prop)->Prop
def QuW(X:Cx)(t:TSet):Prop:=
 ∀(pins:List (Addr×Obj))(s:Shared)(σ:St)(H:Hp)(o i v:V)(ov iv u:Value)(Q:Hp->Prop),Inv X pins σ H s->RelV o ov->RelV i iv->RelV v u->t o i v H Q ->
  wpAny (model X.prog X.w) X.A (setItem ov iv u) (λ_ s'=>∃H',Inv X pins σ H' s'/\Q H') X.xe s
abbrev TIp:=V->V->Hp->VK->Prop
def PIp(X:Cx)(op:Qd3)(t:TIp):Prop:=
 ∀(pins:List (Addr×Obj))(s:Shared)(σ:St)(H:Hp)(x y:V)(v u:Value)(Q:VK),Inv X pins σ H s->RelV x v->RelV y u->t x y H Q ->
  wpAny (model X.prog X.w) X.A (inplaceOp op v u) (EP X pins σ Q) X.xe s
section
variable{X:Cx}{pos:Pos}
def QcT(i:Nat):TG:=λv σ H Q=>Q (σ.set i (some v)) H
theorem QcJ{i:Nat}{x:Str}(hN:X.N.Nodup)(hi:X.N[i]? = some x)(hx:Loc X.env.scope x)(hf:X.fn x=true∨X.env.scope.names.lookup x=some .local:=by first | exact .inl rfl | exact .inr rfl | assumption):PG X (.Name x pos) (QcT i):=by
 intro pins s σ H v u Q I r h;exact QtG (QgD I hN hi hx r (λs' I'=>⟨_,H,I',h⟩) hf)
def QuM:TGs:=λvs σ H Q=>vs=[]/\Q σ H
def QmM(t:TG)(u:TGs):TGs:=λvs σ H Q=>∃v r,vs=v::r/\t v σ H λσ' H'=>u r σ' H' Q
theorem Qjd:PGs X [] QuM:=by
 intro pins s σ H vs us Q I r h;obtain⟨e,h⟩:=h;subst e;cases r;exact assignInOrder_nil ⟨σ,H,I,h⟩
theorem Qek{e:QM}{es:List QM}{t:TG}{u:TGs}(h1:PG X e t)(h2:PGs X es u)
  (hs:(assignEach (e::es) X.env).map (·.2)=assign e X.env::(assignEach es X.env).map (·.2):=by rfl):PGs X (e::es) (QmM t u):=by
 intro pins s σ H vs us Q I r h;obtain⟨v,vr,e1,h⟩:=h;subst e1;cases r with
 |cons r rr=>
  rw[hs];refine assignInOrder_cons (thn (h1 pins s σ H _ _ _ I r h) λ_ s1 ⟨σ1,H1,I1,q1⟩=>?_);exact h2 pins s1 σ1 H1 _ _ Q I1 rr q1
def QuL(K:PySem.W.Frag)(n:Nat)(t:TGs):TG:=λv σ H Q=>∃a xs,v=.ref a/\SqT K H a xs/\xs.length=n/\t xs σ H Q
theorem Qns{es:List QM}{k:Nat}{t:TGs}{n:Nat}(hc:X.calm=true)(h:PGs X es t)
  (hn:(assignEach es X.env).length=n:=by rfl)(hst:(assignEach es X.env).findIdx? (·.1)=none:=by rfl):PG X (.Tuple es k pos) (QuL X.K n t):=by
 intro pins s σ H v u Q I r hw;obtain⟨a,xs,e1,hq,hl,hw⟩:=hw;subst e1;cases r;obtain⟨its,rv,ht,hz⟩:=I.tuple hq;refine assign_Tuple_tuple (I.ok.hd hc) ht (by simp[hn,<- hl,rv.length]) hst λh' hx=>?_
 have I1:Inv X pins σ H { s with heap:=h' }:=I.kept (t':=s.toks) λb o e=>hx b o (Qu (Qi e)) e
 exact h pins _ σ H xs _ Q I1 (by simpa using rv) hw
def gSub(to ti:TE)(t:TSet):TG:=λv σ H Q=>to σ H λo H1=>ti σ H1 λi H2=>t o i v H2 λH3=>Q σ H3
theorem Qnt{o i:QM}{to ti:TE}{t:TSet}(ho:PE X o to)(hi:PE X i ti)(hs:QuW X t)
  (ha:∀v,assign (.Subscript o i pos) X.env v=(do
   let ov <- holding [v] (eval o X.env)
   let iv <- holding [v,ov] (eval i X.env)
   standAt pos
   holding [v,ov,iv] (setItem ov iv v)
   release [v,ov,iv] []):=by intro _;rfl):PG X (.Subscript o i pos) (gSub to ti t):=by
 intro pins s σ H v u Q I r h;rw[ha];refine wpAny_bind (JQ (thn (ho pins s σ H _ I h) λov s1 ⟨x,H1,I1,r1,q1⟩=>?_));refine wpAny_bind (JQ (thn (hi pins s1 σ H1 _ I1 q1) λiv s2 ⟨y,H2,I2,r2,q2⟩=>?_));refine wpAny_bind (wpAny_standAt (wpAny_bind (JQ (thn (hs pins s2 σ H2 x y v ov iv u _ I2 r1 r2 r q2) λ_ s3 ⟨H3,I3,q3⟩=>?_))));exact wpAny_release ⟨σ,H3,I3,q3⟩
def Qnd(te:TE)(g:TG):TS:=λD σ H=>te σ H λx H1=>g x σ H1 D.nx
theorem Qnp{tg e:QM}{te:TE}{g:TG}(he:PE X e te)(hg:PG X tg g)(hs:swapsWithSole [tg] e pos.line X.env=pure false:=by rfl)(hw:swappedStores [tg] e X.env=pure none:=by rfl)
  (h1:(assignEach [tg] X.env).map (·.2)=[assign tg X.env]:=by rfl):PS X (.Assign [tg] e pos) (Qnd te g):=by
 intro pins s σ H D I h;refine wpAny_Assign_stores (thn (he pins s σ H _ I h) λv s1 ⟨x,H1,I1,r1,q1⟩=>?_) hs hw;rw[h1];exact thn (hg pins s1 σ H1 x v _ I1 r1 q1) λ_ s2 q=>q
theorem Qcd{i:Nat}{x:Str}{e:QM}{te:TE}{pos':Pos}(hN:X.N.Nodup)(hi:X.N[i]? = some x)(hx:Loc X.env.scope x)(he:PE X e te)(hs:swapsWith e (some (.Name x pos')) pos.line X.env=pure false:=by rfl)(hf:X.fn x=true∨X.env.scope.names.lookup x=some .local:=by first | exact .inl rfl | exact .inr rfl | assumption) :
  PS X (.Assign [.Name x pos'] e pos) (Qnd te (QcT i)):=by
 intro pins s σ H D I h;refine wpAny_Assign_Name (thn (he pins s σ H _ I h) λv s1 ⟨y,H1,I1,r1,q1⟩=>?_) hs;exact QgD I1 hN hi hx r1 (λs2 I2=>⟨_,H1,I2,q1⟩) hf
def Qrs(to ti te:TE)(tget:V->V->Hp->VK->Prop)(tip:TIp)(tset:TSet):TS:=λD σ H=>to σ H λo H1=>ti σ H1 λi H2=>tget o i H2 λx H3=>te σ H3 λy H4=>tip x y H4 λz H5=>tset o i z H5 λH6=>D.nx σ H6
def QvB(X:Cx)(t:V->V->Hp->VK->Prop):Prop:=
 ∀(pins:List (Addr×Obj))(s:Shared)(σ:St)(H:Hp)(o i:V)(ov iv:Value)(Q:VK),Inv X pins σ H s->RelV o ov->RelV i iv->t o i H Q ->
  wpAny (model X.prog X.w) X.A (getItem ov iv) (EP X pins σ Q) X.xe s
theorem Qos{o i e:QM}{to ti te:TE}{tget:V->V->Hp->VK->Prop}{tip:TIp}{tset:TSet}{op:Qd3}{tpos:Pos}(ho:PE X o to)(hi:PE X i ti)(hg:QvB X tget)(he:PE X e te)(hp:PIp X op tip)(hs:QuW X tset)
  (ha:∀ov iv new,augStore i ov iv new=(do holding [new,ov,iv] (setItem ov iv new);release [new,ov,iv] [];pure .next):=by intros;rfl):PS X (.AugAssign (.Subscript o i tpos) op e pos) (Qrs to ti te tget tip tset):=by
 intro pins s σ H D I h;refine wpAny_AugAssign_SubscriptAny (thn (ho pins s σ H _ I h) λov s1 ⟨x1,H1,I1,r1,q1⟩=>?_) ha;refine thn (hi pins s1 σ H1 _ I1 q1) λiv s2 ⟨x2,H2,I2,r2,q2⟩=>?_
 refine thn (hg pins s2 σ H2 x1 x2 ov iv _ I2 r1 r2 q2) λold s3 ⟨x3,H3,I3,r3,q3⟩=>?_
 refine thn (he pins s3 σ H3 _ I3 q3) λv s4 ⟨x4,H4,I4,r4,q4⟩=>?_
 refine thn (hp pins s4 σ H4 x3 x4 old v _ I4 r3 r4 q4) λnew s5 ⟨x5,H5,I5,r5,q5⟩=>?_
 exact thn (hs pins s5 σ H5 x1 x2 x5 ov iv new _ I5 r1 r2 r5 q5) λ_ s6 ⟨H6,I6,q6⟩=>⟨σ,H6,I6,q6⟩
def ipI(f:Int->Int->Int):TIp:=λx y H Q=>∃i j,x=.int i/\y=.int j/\Q (.int (f i j)) H
theorem QsM:PIp X .Add (ipI λi j=>i+j):=by
 intro pins s σ H x y v u Q I r1 r2 h;obtain⟨i,j,e1,e2,q⟩:=h;subst e1;subst e2;obtain⟨t,rfl⟩:=r1;obtain⟨t',rfl⟩:=r2;exact iadd_int ⟨.int _,H,I.tok _,⟨_,rfl⟩,q⟩
end
section
variable{X:Cx}{pos:Pos}
def Qrp(c:TT)(tb:TS):TS:=λD σ H=>∃W:Nat->St->Hp->Prop,(∃m,W m σ H)/\∀m σ H,W m σ H ->
 c σ H λb H1=>if b=true then ∃N:St->Hp->Prop,(∀σ' H',N σ' H'->∃m',m'<m/\W m' σ' H')/\tb { D with nx:=N,ct:=N,bk:=D.nx } σ H1 else D.nx σ H1
theorem QlM{c:QM}{body:List ZH}{tc:TT}{tb:TS}(hp:Qd2 (model X.prog X.w) X.A X.env X.xe)(hc:PT X c tc)(hb:PSs X body tb):PS X (.While c body [] pos) (Qrp tc tb):=by
 intro pins s σ H D I h;obtain⟨W,⟨m0,w0⟩,turn⟩:=h;refine wpAny_While (codeAny_whileLoop (λn s'=>∃σ' H',Inv X pins σ' H' s'/\W n σ' H') ?_ m0 ⟨σ,H,I,w0⟩);rintro n s1 ⟨σ1,H1,I1,w1⟩;refine Yc hp (thn (hc pins s1 σ1 H1 _ I1 (turn n σ1 H1 w1)) λb s2 ⟨H2,I2,q2⟩=>?_);cases b with
 |true=>
  obtain⟨N,hN,q2⟩:=q2;rw[if_pos rfl];refine Yc hp (thn (hb pins s2 σ1 H2 _ I2 q2) λf s3 q3=>?_);cases f with
  |next=>
   obtain⟨σ3,H3,I3,n3⟩:=q3;obtain⟨m',hm,w3⟩:=hN σ3 H3 n3;exact⟨m',hm,σ3,H3,I3,w3⟩
  |cont=>
   obtain⟨σ3,H3,I3,n3⟩:=q3;obtain⟨m',hm,w3⟩:=hN σ3 H3 n3;exact⟨m',hm,σ3,H3,I3,w3⟩
  |brk=>exact q3
  |ret v=>exact q3
 |false=>
  rw[if_neg Qj];exact Qcg ⟨σ1,H2,I2,q2⟩
end
structure It where
 go:Nat->Hp->Prop
 yld:Nat->Hp->V->Hp->Prop
 stop:Nat->Hp->Prop
def FpOk(X:Cx)(pins:List (Addr×Obj))(H:Hp)(b:Addr):Prop:=
 H b=none/\b≠X.env.locals/\b∉X.fs/\(b∈X.ex∨X.s₀.heap.objs.size<=b)/\(∀x c,X.env.cells.lookup x=some c->c≠b)/\∀p∈X.pn++pins,p.1≠b
theorem Inv.fpOk{X:Cx}{pins:List (Addr×Obj)}{σ:St}{H H':Hp}{s:Shared}{b:Addr}(I:Inv X pins σ H s)(hb:s.heap.objs.size<=b)(hn:H' b=none):FpOk X pins H' b:=by
 refine⟨hn,Qbm (QH I.lt hb),I.nofs hb,.inr (QV I.sz hb),λx c e z=>?_,λp hp z=>?_⟩
 ·obtain⟨v,q⟩:=I.cell x c e;exact absurd (QH q.lt (by rw[z];exact hb)) (Z4 _)
 ·exact absurd (QH (Qi (I.pin p hp).1) (by rw[z];exact hb)) (Z4 _)
structure Turn (P:QF) (w:Q9) (K:PySem.W.Frag) (tg:QM) (J:It) (fp:List Addr) (it:Addr) (tn:Nat->JU->Prop):Prop where
 mem:it∈fp
 obj:∀i h,tn i h->∀b∈fp,∃o,h.get? b=some o/\∀v,o.data≠.cell v
 keep:∀i h h',tn i h->(∀b∈fp,∀o,h.get? b=some o->h'.get? b=some o)->tn i h'
 item:∀(X:Cx),X.prog=P->X.w=w->X.K=K->X.calm=true->∀(i:Nat)(pins:List (Addr×Obj))(s:Shared)(σ:St)(H:Hp)(E:Value->Shared->Prop),Inv X pins σ H s->(∀b∈fp,FpOk X pins H b)->tn i s.heap->J.go i H ->
  wpAny (model P w) X.A (pyNext (.ref it)) (λr s1=>∃u,r=some u /\
   wpAny (model P w) X.A (letOwnedTupleGo tg (.ref it) u) (λ_ s2=>∃x H',Inv X pins σ H' s2/\RelV x u/\J.yld i H x H'/\tn (i+1) s2.heap/\∀b∈fp,H' b=none) E s1) E s
 done:∀(X:Cx),X.prog=P->X.w=w->X.K=K->X.calm=true->∀(i:Nat)(pins:List (Addr×Obj))(s:Shared)(σ:St)(H:Hp)(E:Value->Shared->Prop),Inv X pins σ H s->(∀b∈fp,FpOk X pins H b)->tn i s.heap->J.stop i H ->
  wpAny (model P w) X.A (pyNext (.ref it)) (λr s1=>r=none/\Inv X pins σ H s1) E s
 self:∀(A:Q6)(i:Nat)(s:Shared)(Q:Value->Shared->Prop)(E:Value->Shared->Prop),tn i s.heap->Q (.ref it) s->wpAny (model P w) A (pyIter (.ref it)) Q E s
abbrev TI:=St->Hp->(It->Hp->Prop)->Prop
def PIE(X:Cx)(pins:List (Addr×Obj))(σ:St)(tg:QM)(R:It->Hp->Prop)(itv:Value)(s2:Shared):Prop:=
 ∃(it:Addr)(fp:List Addr)(tn:Nat->JU->Prop)(J:It)(H':Hp),itv=.ref it/\Inv X pins σ H' s2/\Turn X.prog X.w X.K tg J fp it tn/\tn 0 s2.heap/\(∀b∈fp,FpOk X pins H' b)/\R J H'
def PI(X:Cx)(tg iter:QM)(wi:TI):Prop:=
 ∀(pins:List (Addr×Obj))(s:Shared)(σ:St)(H:Hp)(R:It->Hp->Prop),Inv X pins σ H s->wi σ H R ->
  wpAny (model X.prog X.w) X.A (eval iter X.env) (λv s1=>wpAny (model X.prog X.w) X.A (pyIter v) (PIE X pins σ tg R) X.xe s1) X.xe s
theorem Qpt{M:Model}{A:Q6}{E:Value->Shared->Prop}{s:Shared}{tg:QM}{it:Addr}{u:Value}{o:Obj}{n:String}{vs:Array Value}{Q:Unit->Shared->Prop}(ho:s.heap.get? it=some o)(hc:o.cls=.type n)(hd:o.data=.fields vs)
  (hn:["enumerate", "zip", "dict_itemiterator", "dict_reverseitemiterator", "odict_iterator", "itertools.zip_longest", "itertools.pairwise"].contains n=false)(hQ:Q () s):wpAny M A (letOwnedTupleGo tg (.ref it) u) Q E s:=by
 unfold letOwnedTupleGo;cases tg<;>first
  |exact Qh hQ
  |(cases u<;>first
    |exact Qh hQ
    |(refine wpAny_bind (wpAny_load ho ?_)
      rw[hc,hd];show wpAny M A (if(["enumerate", "zip", "dict_itemiterator", "dict_reverseitemiterator", "odict_iterator", "itertools.zip_longest", "itertools.pairwise"].contains n&&vs[0]? == some (rawInt _))=true then _ else _) Q E s;rw[if_neg (by intro h;rw[hn,Qrf] at h;cases h)];exact Qh hQ))
def Itl(K:PySem.W.Frag)(a:Addr):It:=
 ⟨λi H=>∃xs x,SqL K H a xs/\xs[i]? = some x,λi H x H'=>H'=H/\∀xs,SqL K H a xs->xs[i]? = some x,λi H=>∃xs,SqL K H a xs/\xs.length<=i⟩
def Itt(K:PySem.W.Frag)(a:Addr):It:=
 ⟨λi H=>∃xs x,SqT K H a xs/\xs[i]? = some x,λi H x H'=>H'=H/\∀xs,SqT K H a xs->xs[i]? = some x,λi H=>∃xs,SqT K H a xs/\xs.length<=i⟩
def Itr(lo:Int)(n:Nat):It:=⟨λi _=>i<n,λi H x H'=>H'=H/\x=.int (lo+i),λi _=>n<=i⟩
theorem QiA{P:QF}{w:Q9}{K:PySem.W.Frag}{tg:QM}(a it:Addr):Turn P w K tg (Itl K a) [it] it (λi h=>h.IsListIter it a i) where
 mem:=by simp
 obj:=λi h st b hb=>by
  have e:b=it:=by simpa using hb
  subst e;obtain⟨o,e,c,d⟩:=st;exact⟨o,e,λv z=>by rw[d] at z;cases z⟩
 keep:=λi h h' st k=>st.at λo e=>k it (by simp) o e
 item:=by
  intro X hP hw hK hc i pins s σ H E I hf st hg;subst hP hw hK;obtain⟨xs,x,hq,hx⟩:=hg;obtain⟨its,rv,p,hz⟩:=I.list hq;obtain⟨u,hu,ru⟩:=rv.get hx;obtain⟨f0,f1,f2,f3,f4,f5⟩:=hf it (by simp);refine ZW st p.isList (x:=u) (by simpa using hu) λh' st' sb=>?_
  have I1:Inv X pins σ H { s with heap:=h' }:=I.turned (t':=s.toks) (λb o hb e=>(sb.2 b hb).trans e) f0 f1 f3 f4 f5;obtain⟨o,e,c,d⟩:=id st';exact⟨u,rfl,Qpt (s:={ s with heap:=h' }) e c d (by decide) ⟨x,H,I1,ru,⟨rfl,λys hy=>by rw[I.list_inj hy hq];exact hx⟩,st',λb hb=>(hf b hb).1⟩⟩
 done:=by
  intro X hP hw hK hc i pins s σ H E I hf st hg;subst hP hw hK;obtain⟨xs,hq,hx⟩:=hg;obtain⟨its,rv,p,hz⟩:=I.list hq;obtain⟨f0,f1,f2,f3,f4,f5⟩:=hf it (by simp);have hl:=rv.length;exact Y1 (I.ok.hd hc) st p.isList (by simp;omega) λh' eb=>⟨rfl,I.turned (t':=s.toks) (λb o hb e=>eb b o hb e) f0 f1 f3 f4 f5⟩
 self:=λ_ _ _ _ _ st h=>wpAny_pyIter_listiter st h
theorem Qhz{P:QF}{w:Q9}{K:PySem.W.Frag}{tg:QM}(a it:Addr):Turn P w K tg (Itt K a) [it] it (λi h=>h.IsTupleIter it a i) where
 mem:=by simp
 obj:=λi h st b hb=>by
  have e:b=it:=by simpa using hb
  subst e;obtain⟨o,e,c,d⟩:=st;exact⟨o,e,λv z=>by rw[d] at z;cases z⟩
 keep:=λi h h' st k=>st.at λo e=>k it (by simp) o e
 item:=by
  intro X hP hw hK hc i pins s σ H E I hf st hg;subst hP hw hK;obtain⟨xs,x,hq,hx⟩:=hg;obtain⟨its,rv,p,hz⟩:=I.tuple hq;obtain⟨u,hu,ru⟩:=rv.get hx;obtain⟨f0,f1,f2,f3,f4,f5⟩:=hf it (by simp);refine wpAny_pyNext_tuple_item st (show s.heap.IsTuple a its.toArray from p) (x:=u) (by simpa using hu) λh' st' sb=>?_
  have I1:Inv X pins σ H { s with heap:=h' }:=I.turned (t':=s.toks) (λb o hb e=>(sb.2 b hb).trans e) f0 f1 f3 f4 f5;obtain⟨o,e,c,d⟩:=id st';exact⟨u,rfl,Qpt (s:={ s with heap:=h' }) e c d (by decide) ⟨x,H,I1,ru,⟨rfl,λys hy=>by rw[I.tuple_inj hy hq];exact hx⟩,st',λb hb=>(hf b hb).1⟩⟩
 done:=by
  intro X hP hw hK hc i pins s σ H E I hf st hg;subst hP hw hK;obtain⟨xs,hq,hx⟩:=hg;obtain⟨its,rv,p,hz⟩:=I.tuple hq;obtain⟨f0,f1,f2,f3,f4,f5⟩:=hf it (by simp);have hl:=rv.length;exact wpAny_pyNext_tuple_end (I.ok.hd hc) st (show s.heap.IsTuple a its.toArray from p) (by simp;omega) λh' eb=>⟨rfl,I.turned (t':=s.toks) (λb o hb e=>eb b o hb e) f0 f1 f3 f4 f5⟩
 self:=λ_ _ _ _ _ st h=>wpAny_pyIter_tupleiter st h
theorem QhA{P:QF}{w:Q9}{K:PySem.W.Frag}{tg:QM}(it:Addr)(lo:Int)(n:Nat):Turn P w K tg (Itr lo n) [it] it (λi h=>IsRangeIter h it (lo+(i:Nat)*1) ((n:Int) - (i:Nat)) 1) where
 mem:=by simp
 obj:=λi h st b hb=>by
  have e:b=it:=by simpa using hb
  subst e;exact⟨_,st,λv z=>by
   have z':Data.fields _=Data.cell v:=z;cases z'⟩
 keep:=λi h h' st k=>k it (by simp) _ st
 item:=by
  intro X hP hw hK hc i pins s σ H E I hf st hg;subst hP hw hK;obtain⟨f0,f1,f2,f3,f4,f5⟩:=hf it (by simp);have W:=Walks.range (prog:=X.prog) (w:=X.w) (I.ok.hd hc) it lo 1 n;refine W.item i s _ _ hg st λv h' tk hv st' kk=>?_
  obtain⟨t,rfl⟩:=hv;have I1:Inv X pins σ H { s with heap:=h',toks:=tk }:=I.turned (λb o hb e=>kk b o (by simpa using hb) e) f0 f1 f3 f4 f5;refine⟨_,rfl,Qpt (s:={ s with heap:=h',toks:=tk }) (n := "range_iterator") st' rfl rfl (by decide) ⟨.int (lo+i),H,I1,⟨t,?_⟩,⟨rfl,rfl⟩,st',λb hb=>(hf b hb).1⟩⟩;rw[Int.mul_one]
 done:=by
  intro X hP hw hK hc i pins s σ H E I hf st hg;subst hP hw hK;obtain⟨f0,f1,f2,f3,f4,f5⟩:=hf it (by simp);exact wpAny_pyNext_range_end (I.ok.hd hc) st (by have:n<=i:=hg;omega) λh' eb=>⟨rfl,I.turned (t':=s.toks) (λb o hb e=>eb b o hb e) f0 f1 f3 f4 f5⟩
 self:=λ_ _ _ _ _ st h=>wpAny_pyIter_rangeiter st h
section
variable{X:Cx}{tg:QM}
def QuI(K:PySem.W.Frag)(tl:TE):TI:=λσ H R=>tl σ H λx H1=>∃a,x=.ref a/\(∃xs,SqL K H1 a xs)/\R (Itl K a) H1
def Qv5(K:PySem.W.Frag)(tl:TE):TI:=λσ H R=>tl σ H λx H1=>∃a,x=.ref a/\(∃xs,SqT K H1 a xs)/\R (Itt K a) H1
theorem Qow{l:QM}{tl:TE}(hl:PE X l tl):PI X tg l (QuI X.K tl):=by
 intro pins s σ H R I h;refine thn (hl pins s σ H _ I h) λv s1 ⟨x,H1,I1,r1,q1⟩=>?_
 obtain⟨a,e,⟨xs,hq⟩,q⟩:=q1;subst e;cases r1;obtain⟨its,rv,p,hz⟩:=I1.list hq;refine YS p.isList ?_
 refine⟨s1.heap.objs.size,[s1.heap.objs.size],_,_,H1,rfl,I1.kept (t':=s1.toks) λb o e=>Qd _ e,QiA a _,⟨_,Qp _ rfl,rfl,rfl⟩,λb hb=>?_,q⟩;have e:b=s1.heap.objs.size:=by simpa using hb
 subst e;exact I1.fpOk (Qk _) (I1.hok.fresh (Qk _))
theorem QrX{l:QM}{tl:TE}(hl:PE X l tl):PI X tg l (Qv5 X.K tl):=by
 intro pins s σ H R I h;refine thn (hl pins s σ H _ I h) λv s1 ⟨x,H1,I1,r1,q1⟩=>?_
 obtain⟨a,e,⟨xs,hq⟩,q⟩:=q1;subst e;cases r1;obtain⟨its,rv,p,hz⟩:=I1.tuple hq;refine Zu (show s1.heap.IsTuple a its.toArray from p) ?_
 refine⟨s1.heap.objs.size,[s1.heap.objs.size],_,_,H1,rfl,I1.kept (t':=s1.toks) λb o e=>Qd _ e,Qhz a _,⟨_,Qp _ rfl,rfl,rfl⟩,λb hb=>?_,q⟩;have e:b=s1.heap.objs.size:=by simpa using hb
 subst e;exact I1.fpOk (Qk _) (I1.hok.fresh (Qk _))
theorem QlF{pins:List (Addr×Obj)}{σ:St}{H:Hp}{s:Shared}{R:It->Hp->Prop}{E:Value->Shared->Prop}{lo hi:Int}{t u v:Tok}{tk:Nat}(I:Inv X pins σ H s)(h1 : -(2^62)<=lo)(h2:lo<2^62)(h3 : -(2^62)<=hi)(h4:hi<2^62)
  (q:R (Itr lo (hi - lo).toNat) H):wpAny (model X.prog X.w) X.A (pyIter (.ref s.heap.objs.size)) (PIE X pins σ tg R) E { s with heap:=s.heap.push { cls:=.type "range",data:=.fields #[.int lo t,.int hi u,.int 1 v] },toks:=tk }:=by
 refine wpAny_pyIter_range (IsRange.new ..) (small_one h1 h2 h3 h4) ?_
 have I1:Inv X pins σ H { s with heap:=s.heap.push { cls:=.type "range",data:=.fields #[.int lo t,.int hi u,.int 1 v] },toks:=tk }:=I.kept λb o e=>Qd _ e
 refine⟨(s.heap.push { cls:=.type "range",data:=.fields #[.int lo t,.int hi u,.int 1 v] }).objs.size,[(s.heap.push { cls:=.type "range",data:=.fields #[.int lo t,.int hi u,.int 1 v] }).objs.size],_,_,H,rfl,
  I1.kept (t':=tk) λb o e=>Qd _ e,QhA _ lo (hi - lo).toNat,?_,λb hb=>?_,q⟩
 ·have e1:lo+((0:Nat):Int)*1=lo:=by simp
  have e2:(((hi - lo).toNat:Nat):Int) - ((0:Nat):Int)=Qt4 lo hi 1:=by rw[rangeSize_one];split<;>omega
  show IsRangeIter _ _ (lo+((0:Nat):Int)*1) ((((hi - lo).toNat:Nat):Int) - ((0:Nat):Int)) 1;rw[e1,e2];exact Qp _ rfl
 ·have e:b=(s.heap.push { cls:=.type "range",data:=.fields #[.int lo t,.int hi u,.int 1 v] }).objs.size:=by simpa using hb
  subst e;exact I1.fpOk (Qk _) (I1.hok.fresh (Qk _))
def QuH(ta:TA):TI:=λσ H R=>ta σ H λvs H1=>∃j:Int,vs=[.int j] /\ -(2^62)<=j/\j<2^62/\R (Itr 0 j.toNat) H1
theorem Qfb{a:QM}{ta:TA}{p pos:Pos}(hg:Gl X "range")(hm:X.mg "range" = none)(ha:PA X [a] ta)(hs:starEach [a] X.env=[(false,eval a X.env)]:=by rfl):PI X tg (.Call (.Name "range" p) [a] [] pos) (QuH ta):=by
 intro pins s σ H R I h;refine Call_ (Qbw I hg hm boot_range (JG (thn (ha pos pins s σ H _ I h) λus s1 ⟨vs,H1,I1,r1,q1⟩=>?_) hs rfl));obtain⟨j,e,q1,q2,q⟩:=q1;subst e;cases r1 with
 |cons r rr=>
  cases rr;obtain⟨t,rfl⟩:=r;exact call_range_1 (QlF I1 (by omega) (by omega) q1 q2 (by simpa using q))
def tFor(wi:TI)(g:TG)(tb:TS):TS:=λD σ H=>wi σ H λJ H1=>∃W:Nat->Nat->St->Hp->Prop,(∃m,W 0 m σ H1)/\∀i m σ H,W i m σ H ->
 (J.stop i H/\D.nx σ H)∨(J.go i H/\∃N:St->Hp->Prop,(∀σ' H',N σ' H'->∃m',m'<m/\W (i+1) m' σ' H')/\∀x H',J.yld i H x H'->g x σ H' λσ2 H2=>tb { D with nx:=N,ct:=N,bk:=D.nx } σ2 H2)
def QgP(fp:List Addr)(h:JU):List (Addr×Obj):=fp.filterMap λb=>(h.get? b).map λo=>(b,o)
theorem Yb{fp:List Addr}{h:JU}{b:Addr}{o:Obj}(hb:b∈fp)(e:h.get? b=some o):(b,o)∈QgP fp h:=Qld.mpr ⟨b,hb,by rw[e];rfl⟩
theorem QjJ{fp:List Addr}{h:JU}{p:Addr×Obj}(hp:p∈QgP fp h):p.1∈fp/\h.get? p.1=some p.2:=by
 obtain⟨b,hb,e⟩:=Qld.mp hp;cases q:h.get? b with
 |none=>rw[q] at e;cases e
 |some o=>
  rw[q] at e;have e':(b,o)=p:=Qq e;subst e';exact⟨hb,q⟩
theorem Inv.pinned{pins:List (Addr×Obj)}{σ:St}{H:Hp}{s:Shared}{fp:List Addr}(I:Inv X pins σ H s)(hf:∀b∈fp,FpOk X pins H b)(ho:∀b∈fp,∃o,s.heap.get? b=some o/\∀v,o.data≠.cell v):Inv X (pins++QgP fp s.heap) σ H s:=
 I.pins_of λp hp=>(J1.mp hp).elim (λz=>I.pin p (QJ _ z)) λz=>by
  obtain⟨hb,e⟩:=QjJ z;obtain⟨f0,f1,f2,_⟩:=hf p.1 hb;obtain⟨o,e',d⟩:=ho p.1 hb;rw[e] at e';cases e';exact⟨e,f0,f1,f2,d⟩
theorem Inv.unpinned{pins pl:List (Addr×Obj)}{σ:St}{H:Hp}{s:Shared}(I:Inv X (pins++pl) σ H s):Inv X pins σ H s:=I.pins_of λp hp=>I.pin p (QJ _ (QbD _ hp))
theorem Qno{iter:QM}{body:List ZH}{wi:TI}{g:TG}{tb:TS}{pos:Pos}(hp:Qd2 (model X.prog X.w) X.A X.env X.xe)(hc:X.calm=true)(hi:PI X tg iter wi)(hg:PG X tg g)(hb:PSs X body tb)
  (hs:∀x,foldedSetIterable iter X.env x=pure x:=by intro _;rfl):PS X (.For tg iter body [] pos) (tFor wi g tb):=by
 intro pins s σ H D I h;refine wpAny_For (thn (hi pins s σ H _ I h) λv s1 h1=>thn h1 λitv s2 h2=>?_) hs;obtain⟨it,fp,tn,J,H2,e,I2,T,st2,f2,W,⟨m0,w0⟩,turn⟩:=h2;subst e;have stat:∀{H':Hp},(∀b∈fp,H' b=none)->∀b∈fp,FpOk X pins H' b:=λhn b hb=>⟨hn b hb,(f2 b hb).2⟩
 refine codeAny_forLoop_any (λn s'=>∃i σ' H',Inv X pins σ' H' s'/\tn i s'.heap/\(∀b∈fp,H' b=none)/\W i n σ' H') ?_ m0 ⟨0,σ,H2,I2,st2,λb hb=>(f2 b hb).1,w0⟩
 rintro n s3 ⟨i,σ3,H3,I3,st3,fr3,w3⟩;rcases turn i n σ3 H3 w3 with⟨stop,qn⟩ | ⟨go,N,hN,step⟩
 ·refine Yc hp (thn (T.done X rfl rfl rfl hc i pins s3 σ3 H3 X.xe I3 (stat fr3) st3 stop) λr s4 ⟨hr,I4⟩=>?_);subst hr;exact Qcg ⟨σ3,H3,I4,qn⟩
 ·refine Yc hp (thn (T.item X rfl rfl rfl hc i pins s3 σ3 H3 X.xe I3 (stat fr3) st3 go) λr s4 ⟨u,hr,h4⟩=>?_);subst hr;refine Yc hp (thn h4 λ_ s5 ⟨x,H5,I5,r5,y5,st5,fr5⟩=>?_);have I5':=I5.pinned (stat fr5) (T.obj _ _ st5);refine Yc hp (thn (hg _ s5 σ3 H5 x u _ I5' r5 (step x H5 y5)) λ_ s6 ⟨σ6,H6,I6,q6⟩=>?_);refine Yc hp (thn (hb _ s6 σ6 H6 _ I6 q6) λf s7 q7=>?_);have again:∀{σ7:St}{H7:Hp},Inv X (pins++QgP fp s5.heap) σ7 H7 s7->N σ7 H7->∃m,m<n/\∃i σ' H',Inv X pins σ' H' s7/\tn i s7.heap/\(∀b∈fp,H' b=none)/\W i m σ' H':=λ{σ7 H7} I7 n7=>by
   obtain⟨m',hm,w7⟩:=hN σ7 H7 n7;refine⟨m',hm,i+1,σ7,H7,I7.unpinned,T.keep _ _ _ st5 λb hb o e=>(I7.pin (b,o) (QJ _ (QJ _ (Yb hb e)))).1,λb hb=>?_,w7⟩;obtain⟨o,e,d⟩:=T.obj _ _ st5 b hb;exact(I7.pin (b,o) (QJ _ (QJ _ (Yb hb e)))).2.1
  cases f with
  |next=>obtain⟨σ7,H7,I7,n7⟩:=q7;exact again I7 n7
  |cont=>obtain⟨σ7,H7,I7,n7⟩:=q7;exact again I7 n7
  |brk=>obtain⟨σ7,H7,I7,q7⟩:=q7;exact⟨σ7,H7,I7.unpinned,q7⟩
  |ret v=>obtain⟨x7,σ7,H7,I7,r7,q7⟩:=q7;exact⟨x7,σ7,H7,I7.unpinned,r7,q7⟩
end
theorem Qkf{lo:Int}{n:Nat}{g:TG}{tb:TS}{D:Ends}{σ:St}{H:Hp}(Pv:Nat->St->Hp->Prop)(h0:Pv 0 σ H)
  (hs:∀i σ H,i<n->Pv i σ H->g (.int (lo+i)) σ H λσ2 H2=>tb { D with nx:=Pv (i+1),ct:=Pv (i+1),bk:=D.nx } σ2 H2)(hd:∀σ H,Pv n σ H->D.nx σ H) :
  ∃W:Nat->Nat->St->Hp->Prop,(∃m,W 0 m σ H)/\∀i m σ H,W i m σ H ->
   ((Itr lo n).stop i H/\D.nx σ H)∨((Itr lo n).go i H/\∃N:St->Hp->Prop,(∀σ' H',N σ' H'->∃m',m'<m/\W (i+1) m' σ' H')/\∀x H',(Itr lo n).yld i H x H'->g x σ H' λσ2 H2=>tb { D with nx:=N,ct:=N,bk:=D.nx } σ2 H2):=by
 refine⟨λi m σ H=>m=n - i/\i<=n/\Pv i σ H,⟨n,by simp,Jn _,h0⟩,?_⟩;rintro i m σ H ⟨rfl,hi,p⟩;by_cases hlt:i<n
 ·refine .inr ⟨hlt,Pv (i+1),λσ' H' p'=>⟨n - (i+1),by omega,rfl,hlt,p'⟩,λx H' y=>?_⟩;obtain⟨e,y⟩:=y;subst e y;exact hs i σ _ hlt p
 ·have e:i=n:=by omega
  subst e;exact .inl ⟨Qk _,hd σ H p⟩
abbrev R2:=V->V->Hp->VK->Prop
def OpR(X:Cx)(f:Value->Value->Sem Value)(r:R2):Prop:=
 ∀(pins:List (Addr×Obj))(s:Shared)(σ:St)(H:Hp)(x y:V)(v u:Value)(Q:VK),Inv X pins σ H s->RelV x v->RelV y u->r x y H Q ->
  wpAny (model X.prog X.w) X.A (f v u) (EP X pins σ Q) X.xe s
def UnR(X:Cx)(f:Value->Sem Value)(r:V->Hp->VK->Prop):Prop:=
 ∀(pins:List (Addr×Obj))(s:Shared)(σ:St)(H:Hp)(x:V)(v:Value)(Q:VK),Inv X pins σ H s->RelV x v->r x H Q ->
  wpAny (model X.prog X.w) X.A (f v) (EP X pins σ Q) X.xe s
def CallR(X:Cx)(f:Value)(r:List V->Hp->VK->Prop):Prop:=
 ∀(pins:List (Addr×Obj))(s:Shared)(σ:St)(H:Hp)(xs:List V)(us:List Value)(Q:VK),Inv X pins σ H s->Vals xs us->r xs H Q ->
  wpAny (model X.prog X.w) X.A (call f us) (EP X pins σ Q) X.xe s
def Qv9(X:Cx)(r:V->Hp->(Bool->Hp->Prop)->Prop):Prop:=
 ∀(pins:List (Addr×Obj))(s:Shared)(σ:St)(H:Hp)(x:V)(v:Value)(Q:Bool->Hp->Prop),Inv X pins σ H s->RelV x v->r x H Q ->
  wpAny (model X.prog X.w) X.A (truthy v) (TP X pins σ Q) X.xe s
def tOp(r:R2)(ta tb:TE):TE:=λσ H Q=>ta σ H λx H1=>tb σ H1 λy H2=>r x y H2 Q
def tUn(r:V->Hp->VK->Prop)(ta:TE):TE:=λσ H Q=>ta σ H λx H1=>r x H1 Q
def rI(C:Int->Int->Prop)(g:Int->Int->V):R2:=λx y H Q=>∃i j,x=.int i/\y=.int j/\C i j/\Q (g i j) H
def rI0(g:Int->Int->V):R2:=λx y H Q=>∃i j,x=.int i/\y=.int j/\Q (g i j) H
def rU(g:Int->V):V->Hp->VK->Prop:=λx H Q=>∃i,x=.int i/\Q (g i) H
section
variable{X:Cx}{a b c:QM}{ta tb tc:TE}{pos:Pos}
theorem QuT(ha:PE X a ta)(hb:PE X b tb){pins:List (Addr×Obj)}{s:Shared}{σ:St}{H:Hp}{R:V->V->Hp->Prop}(I:Inv X pins σ H s)
  (h:ta σ H λx H1=>tb σ H1 λy H2=>R x y H2){Q:Value->Shared->Prop}{f:Value->Value->Sem Value}
  (hf:∀v u s2 x y H2,Inv X pins σ H2 s2->RelV x v->RelV y u->R x y H2->wpAny (model X.prog X.w) X.A (f v u) Q X.xe s2) :
  wpAny (model X.prog X.w) X.A (eval a X.env) (λv s₁=>wpAny (model X.prog X.w) X.A (eval b X.env) (λu s₂=>wpAny (model X.prog X.w) X.A (f v u) Q X.xe s₂) X.xe s₁) X.xe s:=by
 refine thn (ha pins s σ H _ I h) λv s1 ⟨x,H1,I1,r1,q1⟩=>?_
 refine thn (hb pins s1 σ H1 _ I1 q1) λu s2 ⟨y,H2,I2,r2,q2⟩=>?_
 exact hf v u s2 x y H2 I2 r1 r2 q2
theorem Qaj{op:Qd3}{r:R2}(ho:OpR X (binaryOp op) r)(ha:PE X a ta)(hb:PE X b tb):PE X (.BinOp a op b pos) (tOp r ta tb):=by
 intro pins s σ H Q I h;exact wpAny_BinOp (QuT ha hb I h λv u s2 x y H2 I2 rx ry q=>ho pins s2 σ H2 x y v u Q I2 rx ry q)
theorem Qup{op:UnaryOp}{r:V->Hp->VK->Prop}(ho:UnR X (unaryOp op) r)(ha:PE X a ta):PE X (.UnaryOp op a pos) (tUn r ta):=by
 intro pins s σ H Q I h;exact UnaryOp_ (thn (ha pins s σ H _ I h) λv s1 ⟨x,H1,I1,r1,q1⟩=>ho pins s1 σ H1 x v Q I1 r1 q1)
theorem opI{f:Value->Value->Sem Value}{C:Int->Int->Prop}{g:Int->Int->Int}
  (rule:∀(i j:Int)(t u:Tok)(s:Shared)(Q:Value->Shared->Prop)(E:Value->Shared->Prop),C i j->Q (.int (g i j) s.toks) { s with toks:=s.toks+1 }->wpAny (model X.prog X.w) X.A (f (.int i t) (.int j u)) Q E s) :
  OpR X f (rI C λi j=>.int (g i j)):=by
 intro pins s σ H x y v u Q I rx ry h;obtain⟨i,j,rfl,rfl,hc,q⟩:=h;obtain⟨t,rfl⟩:=rx;obtain⟨t',rfl⟩:=ry;exact rule i j t t' s _ _ hc ⟨.int (g i j),H,I.tok _,⟨_,rfl⟩,q⟩
theorem Qvf{f:Value->Value->Sem Value}{g:Int->Int->Int}
  (rule:∀(i j:Int)(t u:Tok)(s:Shared)(Q:Value->Shared->Prop)(E:Value->Shared->Prop),Q (.int (g i j) s.toks) { s with toks:=s.toks+1 }->wpAny (model X.prog X.w) X.A (f (.int i t) (.int j u)) Q E s) :
  OpR X f (rI0 λi j=>.int (g i j)):=by
 intro pins s σ H x y v u Q I rx ry h;obtain⟨i,j,rfl,rfl,q⟩:=h;obtain⟨t,rfl⟩:=rx;obtain⟨t',rfl⟩:=ry;exact rule i j t t' s _ _ ⟨.int (g i j),H,I.tok _,⟨_,rfl⟩,q⟩
theorem Qtw{f:Value->Value->Sem Value}{g:Int->Int->Bool}
  (rule:∀(i j:Int)(t u:Tok)(s:Shared)(Q:Value->Shared->Prop)(E:Value->Shared->Prop),Q (.bool (g i j)) s->wpAny (model X.prog X.w) X.A (f (.int i t) (.int j u)) Q E s) :
  OpR X f (rI0 λi j=>.bl (g i j)):=by
 intro pins s σ H x y v u Q I rx ry h;obtain⟨i,j,rfl,rfl,q⟩:=h;obtain⟨t,rfl⟩:=rx;obtain⟨t',rfl⟩:=ry;exact rule i j t t' s _ _ ⟨.bl (g i j),H,I,rfl,q⟩
def Qwa(i j:Int):Prop:=0<=j/\j<=1000000/\i.natAbs<2^64
def CMul(i j:Int):Prop:=(-(2^64)<i/\i<2^64)∨(-(2^64)<j/\j<2^64)
theorem CMul.ok{i j:Int}(h:CMul i j):IntMulOk i j:=by
 rcases h with⟨h1,h2⟩ | ⟨h1,h2⟩
 ·exact .of_left (intBits_le_64 h1 h2)
 ·exact .of_right (intBits_le_64 h1 h2)
theorem QdB:OpR X (binaryOp .Add) (rI0 λi j=>.int (i+j)):=Qvf λ_ _ _ _ _ _ _ q=>add_int q
theorem Qdz:OpR X (binaryOp .Sub) (rI0 λi j=>.int (i - j)):=Qvf λ_ _ _ _ _ _ _ q=>sub_int q
theorem QdA:OpR X (binaryOp .Mult) (rI CMul λi j=>.int (i*j)):=opI λ_ _ _ _ _ _ _ hc q=>mul_int q hc.ok
theorem QgT:OpR X (binaryOp .Mod) (rI (λ_ j=>0<j) λi j=>.int (i % j)):=opI λi j _ _ _ _ _ hc q=>by
 have h1:(0:Int)<j:=hc;exact mod_int' (by omega) (by rw[Int.fmod_eq_emod_of_nonneg i (by omega)];exact q)
theorem Qnw:OpR X (binaryOp .Pow) (rI Qwa λi j=>.int (i^j.toNat)):=opI λ_ _ _ _ _ _ _ hc q=>pow_int_small hc.1 hc.2.1 hc.2.2 q
theorem unI{f:Value->Sem Value}{g:Int->Int}
  (rule:∀(i:Int)(t:Tok)(s:Shared)(Q:Value->Shared->Prop)(E:Value->Shared->Prop),Q (.int (g i) s.toks) { s with toks:=s.toks+1 }->wpAny (model X.prog X.w) X.A (f (.int i t)) Q E s) :
  UnR X f (rU λi=>.int (g i)):=by
 intro pins s σ H x v Q I rx h;obtain⟨i,rfl,q⟩:=h;obtain⟨t,rfl⟩:=rx;exact rule i t s _ _ ⟨.int (g i),H,I.tok _,⟨_,rfl⟩,q⟩
theorem Qrh:UnR X (unaryOp .USub) (rU λi=>.int (-i)):=unI λ_ _ _ _ _ q=>neg_int q
end
def scal:V->V->Bool
 |.non,.non=>true | .non,.int _=>true | .int _,.non=>true | .non,.bl _=>true | .bl _,.non=>true | .non,.str _=>true | .str _,.non=>true
 |.int _,.int _=>true | .bl _,.bl _=>true | .str _,.str _=>true | .byt _,.byt _=>true
 |.int _,.str _=>true | .str _,.int _=>true | .bl _,.str _=>true | .str _,.bl _=>true
 |_,_=>false
def rEq:R2:=λx y H Q=>scal x y=true/\Q (.bl (decide (x=y))) H
def rNe:R2:=λx y H Q=>scal x y=true/\Q (.bl (!decide (x=y))) H
theorem Qko{i j:Int}:decide (V.int i=V.int j)=(i == j):=by
 rw[Zo];simp
theorem QnI{i j:Bool}:decide (V.bl i=V.bl j)=(i == j):=by
 rw[Zo];simp
theorem Qkn{i j:Str}:decide (V.str i=V.str j)=(i == j):=by
 rw[Zo];simp
theorem Qkp{i j:Array UInt8}:decide (V.byt i=V.byt j)=(i.toList == j.toList):=by
 rw[Zo];cases i;cases j;simp
section
variable{X:Cx}{a b c:QM}{ta tb tc:TE}{pos:Pos}
theorem Zf{pins:List (Addr×Obj)}{σ:St}{H:Hp}{s:Shared}{Q:VK}{k k':Bool}(I:Inv X pins σ H s)(q:Q (.bl k) H)(e:k=k'):EP X pins σ Q (.bool k') s:=by
 subst e;exact⟨.bl k,H,I,rfl,q⟩
theorem Qsm:OpR X (compareOp .Eq) rEq:=by
 intro pins s σ H x y v u Q I rx ry h;obtain⟨hs,q⟩:=h;cases x with
 |non=>
  cases rx;cases y with
  |non=>cases ry;exact PySem.EqNone.eq_none_none (Zf I q (by simp))
  |bl j=>cases ry;exact PySem.EqNone.eq_none_bool (Zf I q (by simp))
  |int j=>obtain⟨t',rfl⟩:=ry;exact PySem.EqNone.eq_none_int (Zf I q (by simp))
  |str j=>obtain⟨t',rfl⟩:=ry;exact PySem.EqNone.eq_none_str (Zf I q (by simp))
  |_=>exact absurd (show false=true from hs) Qj
 |bl i=>
  cases rx;cases y with
  |non=>cases ry;exact PySem.EqNone.eq_bool_none (Zf I q (by simp))
  |bl j=>cases ry;exact eq_bool (Zf I q QnI)
  |str j=>obtain⟨t',rfl⟩:=ry;exact PySem.EqMixed.eq_bool_str (Zf I q (by simp))
  |_=>exact absurd (show false=true from hs) Qj
 |int i=>
  obtain⟨t,rfl⟩:=rx;cases y with
  |non=>cases ry;exact PySem.EqNone.eq_int_none (Zf I q (by simp))
  |int j=>obtain⟨t',rfl⟩:=ry;exact eq_int (Zf I q Qko)
  |str j=>obtain⟨t',rfl⟩:=ry;exact PySem.EqMixed.eq_int_str (Zf I q (by simp))
  |_=>exact absurd (show false=true from hs) Qj
 |str i=>
  obtain⟨t,rfl⟩:=rx;cases y with
  |non=>cases ry;exact PySem.EqNone.eq_str_none (Zf I q (by simp))
  |bl j=>cases ry;exact PySem.EqMixed.eq_str_bool (Zf I q (by simp))
  |int j=>obtain⟨t',rfl⟩:=ry;exact PySem.EqMixed.eq_str_int (Zf I q (by simp))
  |str j=>obtain⟨t',rfl⟩:=ry;exact eq_str (Zf I q Qkn)
  |_=>exact absurd (show false=true from hs) Qj
 |byt i=>
  obtain⟨t,rfl⟩:=rx;cases y with
  |byt j=>obtain⟨t',rfl⟩:=ry;exact PySem.W.eq_bytes (Zf I q Qkp)
  |_=>exact absurd (show false=true from hs) Qj
 |_=>cases y<;>exact absurd (show false=true from hs) Qj
theorem QoY:OpR X (compareOp .NotEq) rNe:=by
 intro pins s σ H x y v u Q I rx ry h;obtain⟨hs,q⟩:=h;cases x with
 |non=>
  cases rx;cases y with
  |non=>cases ry;exact PySem.EqNone.ne_none_none (Zf I q (by simp))
  |bl j=>cases ry;exact PySem.EqNone.ne_none_bool (Zf I q (by simp))
  |int j=>obtain⟨t',rfl⟩:=ry;exact PySem.EqNone.ne_none_int (Zf I q (by simp))
  |str j=>obtain⟨t',rfl⟩:=ry;exact PySem.EqNone.ne_none_str (Zf I q (by simp))
  |_=>exact absurd (show false=true from hs) Qj
 |bl i=>
  cases rx;cases y with
  |non=>cases ry;exact PySem.EqNone.ne_bool_none (Zf I q (by simp))
  |bl j=>cases ry;exact ne_bool (Zf I q (congrArg not QnI))
  |str j=>obtain⟨t',rfl⟩:=ry;exact PySem.EqMixed.ne_bool_str (Zf I q (by simp))
  |_=>exact absurd (show false=true from hs) Qj
 |int i=>
  obtain⟨t,rfl⟩:=rx;cases y with
  |non=>cases ry;exact PySem.EqNone.ne_int_none (Zf I q (by simp))
  |int j=>obtain⟨t',rfl⟩:=ry;exact ne_int (Zf I q (congrArg not Qko))
  |str j=>obtain⟨t',rfl⟩:=ry;exact PySem.EqMixed.ne_int_str (Zf I q (by simp))
  |_=>exact absurd (show false=true from hs) Qj
 |str i=>
  obtain⟨t,rfl⟩:=rx;cases y with
  |non=>cases ry;exact PySem.EqNone.ne_str_none (Zf I q (by simp))
  |bl j=>cases ry;exact PySem.EqMixed.ne_str_bool (Zf I q (by simp))
  |int j=>obtain⟨t',rfl⟩:=ry;exact PySem.EqMixed.ne_str_int (Zf I q (by simp))
  |str j=>obtain⟨t',rfl⟩:=ry;exact ne_str (Zf I q (congrArg not Qkn))
  |_=>exact absurd (show false=true from hs) Qj
 |byt i=>
  obtain⟨t,rfl⟩:=rx;cases y with
  |byt j=>obtain⟨t',rfl⟩:=ry;exact PySem.W.ne_bytes (Zf I q (congrArg not Qkp))
  |_=>exact absurd (show false=true from hs) Qj
 |_=>cases y<;>exact absurd (show false=true from hs) Qj
theorem Qmh:OpR X (compareOp .Lt) (rI0 λi j=>.bl (decide (i<j))):=Qtw λ_ _ _ _ _ _ _ q=>lt_int q
theorem Qf1:OpR X (compareOp .LtE) (rI0 λi j=>.bl (decide (i<=j))):=Qtw λ_ _ _ _ _ _ _ q=>le_int q
theorem Qo0:OpR X (compareOp .Gt) (rI0 λi j=>.bl (decide (j<i))):=Qtw λ_ _ _ _ _ _ _ q=>gt_int q
theorem Qmj:OpR X (compareOp .GtE) (rI0 λi j=>.bl (decide (j<=i))):=Qtw λ_ _ _ _ _ _ _ q=>ge_int q
theorem Qju:OpR X (compareOp .Is) (λx y H Q=>y=.non/\Q (.bl (decide (x=.non))) H):=by
 intro pins s σ H x y v u Q I rx ry h;obtain⟨rfl,q⟩:=h;cases ry;refine is_none_gen (Zf I q ?_);cases x<;>first
  |(cases rx;rfl)
  |(obtain⟨t,rfl⟩:=rx;rfl)
theorem OpR.or{f:Value->Value->Sem Value}{r r':R2}(h:OpR X f r)(h':OpR X f r'):OpR X f (λx y H Q=>r x y H Q∨r' x y H Q):=by
 intro pins s σ H x y v u Q I rx ry q;rcases q with q | q
 ·exact h pins s σ H x y v u Q I rx ry q
 ·exact h' pins s σ H x y v u Q I rx ry q
theorem JJ(b:QM){op:Qhw}(h:op≠.In:=by decide)(h2:op≠.NotIn:=by decide):behindInMarks op b=false:=by
 have e1:(op == CmpOp.In)=false:=by cases op<;>first | rfl | exact absurd rfl h
 have e2:(op == CmpOp.NotIn)=false:=by cases op<;>first | rfl | exact absurd rfl h2
 cases b<;>simp[behindInMarks,e1,e2]
theorem QbS{op:Qhw}{r:R2}(ho:OpR X (compareOp op) r)(ha:PE X a ta)(hb:PE X b tb)(hm:behindInMarks op b=false):PE X (.Compare a [op] [b] pos) (tOp r ta tb):=by
 intro pins s σ H Q I h;exact wpAny_Compare1 (QuT ha hb I h λv u s2 x y H2 I2 rx ry q=>ho pins s2 σ H2 x y v u Q I2 rx ry q) hm
def Qrq(t:TE):TT:=λσ H Q=>t σ H λx H'=>∃k,x=.bl k/\Q k H'
theorem QbR{op:Qhw}{r:R2}(ho:OpR X (compareOp op) r)(ha:PE X a ta)(hb:PE X b tb)(hm:behindInMarks op b=false):PT X (.Compare a [op] [b] pos) (Qrq (tOp r ta tb)):=by
 intro pins s σ H Q I h;refine wpAny_isTrue_Compare1 (thn (ha pins s σ H _ I h) λv s1 ⟨x,H1,I1,r1,q1⟩=>thn (hb pins s1 σ H1 _ I1 q1) λu s2 ⟨y,H2,I2,r2,q2⟩=>
  thn (ho pins s2 σ H2 x y v u _ I2 r1 r2 q2) λc s3 ⟨z,H3,I3,r3,k,e,q3⟩=>?_) hm
 subst e;cases r3;exact Jp ⟨H3,I3,q3⟩
def QiI(r r':R2)(ta tb tc:TE):TE:=λσ H Q=>ta σ H λx H1=>tb σ H1 λy H2=>r x y H2 λz H3=>∃k,z=.bl k /\
 (if k=true then tc σ H3 λw' H4=>r' y w' H4 Q else Q (.bl false) H3)
theorem QlT{op op':Qhw}{r r':R2}(ho:OpR X (compareOp op) r)(ho':OpR X (compareOp op') r')(ha:PE X a ta)(hb:PE X b tb)(hc:PE X c tc)
  (hm:lastMarks [op,op'] [b,c]=false:=by with_unfolding_all rfl):PE X (.Compare a [op,op'] [b,c] pos) (QiI r r' ta tb tc):=by
 intro pins s σ H Q I h;refine Compare_chain (thn (ha pins s σ H _ I h) λv s1 ⟨x,H1,I1,r1,q1⟩=>chain_link (thn (hb pins s1 σ H1 _ I1 q1) λu s2 ⟨y,H2,I2,r2,q2⟩=>
  thn (ho pins s2 σ H2 x y v u _ I2 r1 r2 q2) λd s3 ⟨z,H3,I3,r3,k,e,q3⟩=>?_)) hm
 subst e;cases r3;refine Jp ?_
 cases k with
 |false=>exact ite_ff ⟨.bl false,H3,I3,rfl,q3⟩
 |true=>exact ite_tt (chain_last (thn (hc pins s3 σ H3 _ I3 q3) λw' s4 ⟨z',H4,I4,r4,q4⟩=>ho' pins s4 σ H4 y z' u w' Q I4 r2 r4 q4))
theorem QlL{op op':Qhw}{r r':R2}(ho:OpR X (compareOp op) r)(ho':OpR X (compareOp op') r')(ha:PE X a ta)(hb:PE X b tb)(hc:PE X c tc)
  (hm:lastMarks [op,op'] [b,c]=false:=by with_unfolding_all rfl):PT X (.Compare a [op,op'] [b,c] pos) (Qrq (QiI r r' ta tb tc)):=by
 intro pins s σ H Q I h;refine isTrue_chain (thn (ha pins s σ H _ I h) λv s1 ⟨x,H1,I1,r1,q1⟩=>test_link (thn (hb pins s1 σ H1 _ I1 q1) λu s2 ⟨y,H2,I2,r2,q2⟩=>
  thn (ho pins s2 σ H2 x y v u _ I2 r1 r2 q2) λd s3 ⟨z,H3,I3,r3,k,e,q3⟩=>?_)) hm
 subst e;cases r3;refine Jp ?_
 cases k with
 |false=>
  obtain⟨k',e',q'⟩:=q3;cases e';exact ite_ff ⟨H3,I3,q'⟩
 |true=>
  refine ite_tt (test_last (thn (hc pins s3 σ H3 _ I3 q3) λw' s4 ⟨z',H4,I4,r4,q4⟩=>thn (ho' pins s4 σ H4 y z' u w' _ I4 r2 r4 q4) λd' s5 ⟨z2,H5,I5,r5,k2,e2,q5⟩=>?_));subst e2;cases r5;exact Jp ⟨H5,I5,q5⟩
def QuU(K:PySem.W.Frag)(x:V)(H:Hp)(k:Bool):Prop:=
 match x with
 |.non=>k=false
 |.bl b=>k=b
 |.int i=>k=(i != 0)
 |.str y=>y.length<=sizeLine/\k=((y.length:Int) != 0)
 |.byt y=>y.size<=sizeLine/\k=((y.size:Int) != 0)
 |.ref p=>(∃xs,SqL K H p xs/\k = !xs.isEmpty)∨(∃xs,SqT K H p xs/\k = !xs.isEmpty)∨∃kvs,H p=some (.dK kvs)/\k = !kvs.isEmpty
 |_=>False
theorem QhZ{κ:Type}{kvs:List (κ×V)}{vs:List (κ×Value)}(r:KV kvs vs):(!vs.isEmpty) = !kvs.isEmpty:=by
 cases r<;>rfl
theorem QdL{xs:List V}{its:List Value}(r:Vals xs its):(!its.toArray.isEmpty) = !xs.isEmpty:=by
 cases r<;>simp
theorem QdG:(sizeLine:Nat)<2^63:=by rw[Qhq];decide
theorem Qrl:Qv9 X (λx H Q=>∃k,QuU X.K x H k/\Q k H):=by
 intro pins s σ H x v Q I rx h;obtain⟨k,e,q⟩:=h;have hl:=QdG;have hs:sizeLine=16777216:=Qhq;cases x with
 |non=>
  cases rx;have e':k=false:=e;subst e';exact truthy_none ⟨H,I,q⟩
 |bl b=>
  cases rx;have e':k=b:=e;subst e';exact Jp ⟨H,I,q⟩
 |int i=>
  obtain⟨t,rfl⟩:=rx;have e':k=(i != 0):=e;subst e';exact PySem.P.truthy_int ⟨H,I,q⟩
 |str y=>
  obtain⟨t,rfl⟩:=rx;obtain⟨hy,e'⟩:y.length<=sizeLine/\k=((y.length:Int) != 0):=e;subst e';exact PySem.P.truthy_str (by omega) ⟨H,I.tok _,q⟩
 |byt y=>
  obtain⟨t,rfl⟩:=rx;obtain⟨hy,e'⟩:y.size<=sizeLine/\k=((y.size:Int) != 0):=e;subst e';exact PySem.W.truthy_bytes (by omega) ⟨H,I.tok _,q⟩
 |ref p=>
  cases rx;have e':(∃xs,SqL X.K H p xs/\k = !xs.isEmpty)∨(∃xs,SqT X.K H p xs/\k = !xs.isEmpty)∨∃kvs,H p=some (.dK kvs)/\k = !kvs.isEmpty:=e
  rcases e' with⟨xs,hx,e'⟩ | ⟨xs,hx,e'⟩ | ⟨kvs,hx,e'⟩
  ·subst e';obtain⟨its,r,pl,hz⟩:=I.list hx;have hlen:=r.length;exact wpAny_truthy_list pl.isList (by simp only[Qm];omega) ⟨H,I.tok _,by rw[QdL r];exact q⟩
  ·subst e';obtain⟨its,r,pl,hz⟩:=I.tuple hx;have hlen:=r.length;exact truthy_tuple pl (by simp only[Qm];omega) ⟨H,I.tok _,by rw[QdL r];exact q⟩
  ·subst e';obtain⟨hz,hS,vs,r,m⟩:kvs.length<=sizeLine/\(p == sysModules)=false/\∃vs,KV kvs vs/\s.heap.DictOf (mixKind X.prog X.w) p vs:=I.hok p _ hx
   have hlen:kvs.length=vs.length:=QpV r;exact wpAny_truthy_dict hS m (by omega) ⟨H,I.tok _,by rw[QhZ r];exact q⟩
 |_=>exact(show False from e).elim
theorem QlK(ha:PE X a ta)(he:∀whole,isTrue a X.env whole=(do let v <- whole;standAt a.pos;holding [v] (truthy v))) :
  PT X a (λσ H Q=>ta σ H λx H'=>∃k,QuU X.K x H' k/\Q k H'):=by
 intro pins s σ H Q I h;exact isTrue_plain (thn (ha pins s σ H _ I h) λv s1 ⟨x,H1,I1,r1,q1⟩=>Qrl pins s1 σ H1 x v Q I1 r1 q1) (he _)
theorem vals1{x:V}{us:List Value}(r:Vals [x] us):∃u,us=[u]/\RelV x u:=by
 cases r with
 |cons r1 r2=>cases r2;exact⟨_,rfl,r1⟩
theorem vals2{x y:V}{us:List Value}(r:Vals [x,y] us):∃u w',us=[u,w']/\RelV x u/\RelV y w':=by
 cases r with
 |cons r1 r2=>
  cases r2 with
  |cons r3 r4=>cases r4;exact⟨_,_,rfl,r1,r3⟩
theorem Y8(hc:X.calm=true):CallR X (.builtin "max") (λxs H Q=>∃i j,xs=[.int i,.int j]/\Q (.int (if j > i then j else i)) H):=by
 intro pins s σ H xs us Q I r h;obtain⟨i,j,rfl,q⟩:=h;obtain⟨u,w',rfl,⟨t,rfl⟩,⟨t',rfl⟩⟩:=vals2 r;refine max_two_ints (I.ok.hd hc) λh' tk k=>⟨_,H,I.kept k,?_,q⟩
 by_cases hj:j > i
 ·rw[if_pos hj,if_pos hj];exact⟨_,rfl⟩
 ·rw[if_neg hj,if_neg hj];exact⟨_,rfl⟩
theorem Qfr(hc:X.calm=true):CallR X (.builtin "min") (λxs H Q=>∃i j,xs=[.int i,.int j]/\Q (.int (if j<i then j else i)) H):=by
 intro pins s σ H xs us Q I r h;obtain⟨i,j,rfl,q⟩:=h;obtain⟨u,w',rfl,⟨t,rfl⟩,⟨t',rfl⟩⟩:=vals2 r;refine min_two_ints (I.ok.hd hc) λh' tk k=>⟨_,H,I.kept k,?_,q⟩
 by_cases hj:j<i
 ·rw[if_pos hj,if_pos hj];exact⟨_,rfl⟩
 ·rw[if_neg hj,if_neg hj];exact⟨_,rfl⟩
theorem Qfs:CallR X (.type "int") (λxs H Q=>(∃i,xs=[.int i]/\Q (.int i) H)∨∃k,xs=[.bl k]/\Q (.int (if k then 1 else 0)) H):=by
 intro pins s σ H xs us Q I r h;rcases h with⟨i,rfl,q⟩ | ⟨k,rfl,q⟩
 ·obtain⟨u,rfl,t,rfl⟩:=vals1 r;exact call_int_int ⟨.int i,H,I,⟨_,rfl⟩,q⟩
 ·obtain⟨u,rfl,r1⟩:=vals1 r;cases r1;exact call_int_bool ⟨.int (if k then 1 else 0),H,I.tok _,⟨_,rfl⟩,q⟩
end
structure ObjM (h:JU) (x dx C:Addr) (mA:Str->Option Value):Prop where
 obj:h.get? x=some (PySem.W.instObj C dx)
 ns:h.Ns1 dx mA
 ne:dx≠x
theorem QjU{h:JU}{dx:Addr}{mA:Str->Option Value}(n:h.Ns1 dx mA):∃od,h.get? dx=some od/\∀name,PySem.W.lookIn name od=some (mA name):=by
 obtain⟨o,es,ep,ho,hd,hk,_,hm⟩:=n;refine⟨o,ho,λname=>?_⟩;have e:=hm name;unfold nsFind findBy at e;rw[<- Array.find?_toList] at e;unfold PySem.W.lookIn;rw[hd]
 dsimp only
 split
 ·rename_i y q
  rw[q] at e;exact congrArg some e
 ·rename_i q
  rw[q] at e;have a:es.toList.any (·.refKey)=false:=by
   rw[List.any_eq_false];intro y hy;obtain⟨z,t,hkey⟩:=hk y (Qik.mp hy);simp[DictEntry.refKey,hkey]
  have a':¬es.toList.any (·.refKey)=true:=by rw[a];exact Qj
  rw[if_neg a'];exact congrArg some e
theorem ObjM.look{h:JU}{x dx C:Addr}{mA:Str->Option Value}(I:ObjM h x dx C mA):∃od,PySem.W.InstAt h x (PySem.W.instObj C dx) C (some od)/\∀name,PySem.W.lookIn name od=some (mA name):=
 let ⟨od,ho,hl⟩:=QjU I.ns
 ⟨od,⟨I.obj,rfl,rfl,ho⟩,hl⟩
section
variable{prog:QF}{w:Q9}{A:Q6}{E:Value->Shared->Prop}{s:Shared}{K:PySem.W.Frag}{x dx C f:Addr}{mA:Str->Option Value}{name:Str}{v:Value}
end
section
variable{P:QF}{w:Q9}{H H':Hp}{h h':JU}{a C dx:Addr}{fs fs':List (Str×V)}
theorem Qpp(hok:HOk P w H h)(e:H a=some (.ins C dx fs)):∃mA,ObjM h a dx C mA/\(∀f,QuV (fs.lookup f) (mA f))/\PySem.Within mA (fs.map (·.1))/\fs.length<=1000/\H dx=some (.own a):=by
 obtain⟨d,z,ne,ob,mA,n,r,q⟩:=(show ObjOk P w H h a (.ins C dx fs) from hok a _ e);exact⟨mA,⟨ob,n,ne⟩,r,q,z,d⟩
end
structure Cls (K:PySem.W.Frag) (C:Addr):Prop where
 pg:PySem.W.plainGet K C Str.empty=true
 hd:PySem.W.hasDictIn K C=true
 po:PySem.W.plainOver K C=true
 sa:PySem.W.findIn K (.ref C) "__setattr__" = some (some (.builtin "object.__setattr__"))
theorem Cls.get{K:PySem.W.Frag}{C:Addr}(c:Cls K C)(f:Str):PySem.W.plainGet K C f=true:=c.pg
section
variable{X:Cx}{pins:List (Addr×Obj)}{σ:St}{H:Hp}{s:Shared}{a C dx:Addr}{fs:List (Str×V)}{f:Str}{v:V}{A:Q6}{E:Value->Shared->Prop}
end
section
variable{X:Cx}{o e value:QM}{f:Str}{pos pos' tpos:Pos}{ta tv:TE}
def rAdd:V->V->Hp->VK->Prop:=λx y H Q=>∃i j,x=.int i/\y=.int j/\Q (.int (i+j)) H
end
section
variable{X:Cx}{pins:List (Addr×Obj)}{σ:St}{H:Hp}{s:Shared}{A:Q6}{E:Value->Shared->Prop}{Q:Value->Shared->Prop}{c:Value}{b:Bool}
inductive TyOf (K:PySem.W.Frag) (H:Hp):V->Value->Prop where
 |non:TyOf K H .non (.type "NoneType")
 |bl (x:Bool):TyOf K H (.bl x) (.type "bool")
 |int (i:Int):TyOf K H (.int i) (.type "int")
 |str (x:Str):TyOf K H (.str x) (.type "str")
 |flt (x:UInt64):TyOf K H (.flt x) (.type "float")
 |lst {a:Addr} {xs:List V} (e:H a=some (.lst xs)):TyOf K H (.ref a) (.type "list")
 |frz {a:Addr} {o:Obj} {xs:List V} (e:H a=some (.frz o (.lst xs))):TyOf K H (.ref a) (.type "list")
 |tup {a:Addr} {xs:List V} (e:H a=some (.tup xs)):TyOf K H (.ref a) (.type "tuple")
 |dK {a:Addr} {kvs:List (Key×V)} (e:H a=some (.dK kvs)):TyOf K H (.ref a) (.type "dict")
 |dT {a:Addr} {kvs:List (List Key×V)} (e:H a=some (.dT kvs)):TyOf K H (.ref a) (.type "dict")
 |ins {a C dx:Addr} {fs:List (Str×V)} (e:H a=some (.ins C dx fs)) (cl:Cls K C) (ha:PySem.W.findIn K (.ref C) "__class__" = some (some (.builtin "object.__class__")))
   (hn:PySem.W.specialIn K (.builtin "object.__class__") "__get__" = some (some (.builtin "getset_descriptor.__get__"))) (htk:PySem.W.takesIn K (.builtin "object.__class__")=some true)
   (hm:PySem.W.mroIn K C (.type "object")=some true):TyOf K H (.ref a) (.ref C)
theorem Qj6{x:V}{u t:Value}(I:Inv X pins σ H s)(rx:RelV x u)(ty:TyOf X.K H x t)(e:PySem.W.kitOne X.K t c=some b)(h:∀tk,Q (.bool b) { s with toks:=tk }) :
  wpAny (model X.prog X.w) A (call (.builtin "isinstance") [u,c]) Q E s:=by
 cases ty with
 |non=>cases(show u=Yy from rx);exact PySem.W.kia_one PySem.W.kitx_none I.kIn Qbj e (λz=>nomatch z) h
 |bl y=>cases(show u=Yl y from rx);exact PySem.W.kia_one PySem.W.kitx_bool I.kIn Qbj e (λz=>nomatch z) h
 |int i=>obtain⟨t,q⟩:=(show ∃t,u=QnU i t from rx);cases q;exact PySem.W.kia_one PySem.W.kitx_int I.kIn Qbj e (λz=>nomatch z) h
 |str y=>obtain⟨t,q⟩:=(show ∃t,u=QnT y t from rx);cases q;exact PySem.W.kia_one PySem.W.kitx_str I.kIn Qbj e (λz=>nomatch z) h
 |flt y=>obtain⟨t,q⟩:=(show ∃t,u=QtL y t from rx);cases q;exact PySem.W.kia_one PySem.W.kitx_float I.kIn Qbj e (λz=>nomatch z) h
 |@lst a xs ea=>
  cases(show u=Za a from rx);obtain⟨_,_,n,_,h1⟩:=(show ObjOk X.prog X.w H s.heap a (.lst xs) from I.hok a _ ea);exact PySem.W.kia_one PySem.W.kitx_list I.kIn ⟨_,h1,rfl⟩ e (λz=>nomatch z) h
 |@frz a ob xs ea=>
  cases(show u=Za a from rx);obtain⟨_,_,_,n,_,h1⟩:=(show ObjOk X.prog X.w H s.heap a (.frz ob (.lst xs)) from I.hok a _ ea);exact PySem.W.kia_one PySem.W.kitx_list I.kIn ⟨_,h1,rfl⟩ e (λz=>nomatch z) h
 |@tup a xs ea=>
  cases(show u=Za a from rx);obtain⟨_,_,_,p⟩:=(show ObjOk X.prog X.w H s.heap a (.tup xs) from I.hok a _ ea);obtain⟨o,h1,h2,_⟩:=p;exact PySem.W.kia_one PySem.W.kitx_tuple I.kIn ⟨o,h1,h2⟩ e (λz=>nomatch z) h
 |@dK a kvs ea=>
  cases(show u=Za a from rx);obtain⟨_,_,vs,_,p⟩:=(show ObjOk X.prog X.w H s.heap a (.dK kvs) from I.hok a _ ea);obtain⟨o,es,ep,h1,h2,_⟩:=p;exact PySem.W.kia_one PySem.W.kitx_dict I.kIn ⟨o,h1,h2.1⟩ e (λz=>nomatch z) h
 |@dT a kvs ea=>
  cases(show u=Za a from rx);obtain⟨_,_,xs,_,o,es,ep,h1,h2,_⟩:=(show ObjOk X.prog X.w H s.heap a (.dT kvs) from I.hok a _ ea);exact PySem.W.kia_one PySem.W.kitx_dict I.kIn ⟨o,h1,h2.1⟩ e (λz=>nomatch z) h
 |@ins a C dx fs ea cl ha hn htk hm=>
  cases(show u=Za a from rx);obtain⟨mA,O,_⟩:=Qpp I.hok ea;obtain⟨od,J,_⟩:=O.look;exact PySem.W.kia_one (PySem.W.kitx_own (cl.get _) cl.hd ha hn htk hm) I.kIn J e (λz=>nomatch z) h
end
structure Room (k:Nat) (A:Q6):Prop where
 hd:A.handled=none
 dp:A.depth+3*k+5<recursionLimit
 un:A.units+16*k+200<cLine
theorem Room.mono{j k:Nat}{A:Q6}(r:Room k A)(h:j<=k):Room j A:=⟨r.hd,by have:=r.dp;omega,by have:=r.un;omega⟩
theorem Room.deeper{k:Nat}{A:Q6}(r:Room (k+1) A)(env:Env):Room k (A.deeper env):=
 ⟨r.hd,by have:=r.dp;show A.depth+1+3*k+5<_;omega,by have:=r.un;show A.units+3+16*k+200<_;omega⟩
theorem Room.in1{k:Nat}{A:Q6}(r:Room (k+1) A):Room k A.in1:=
 ⟨r.hd,by have:=r.dp;show A.depth+3*k+5<_;omega,by have:=r.un;show A.units+1+16*k+200<_;omega⟩
theorem Room.depth{k:Nat}{A:Q6}(r:Room k A):A.depth<recursionLimit:=by have:=r.dp;omega
theorem Room.units0{k:Nat}{A:Q6}(r:Room k A):A.units<cLine:=by have:=r.un;omega
def Qrr:TA:=λ_ H Q=>Q [] H
def QeZ(ta:TE)(tr:TA):TA:=λσ H Q=>ta σ H λx H1=>tr σ H1 λxs H2=>Q (x::xs) H2
section
variable{X:Cx}{e:QM}{es:List QM}{te:TE}{t:TA}{pos:Pos}
theorem JV:PA X [] Qrr:=λ_ _ _ _ H Q I h=>Calls.spliced_nil ⟨[],H,I,.nil,h⟩
theorem Jl(ha:PE X e te)(hr:PA X es t)(hs:starEach (e::es) X.env=(false,eval e X.env)::starEach es X.env:=by rfl):PA X (e::es) (QeZ te t):=by
 intro pos pins s σ H Q I h;rw[hs];show wpAny _ _ (spliced ((false,eval e X.env)::backTo pos (starEach es X.env))) _ _ s;refine Calls.spliced_cons (thn (ha pins s σ H _ I h) λu s1 ⟨x,H1,I1,r1,q1⟩=>?_);exact thn (hr pos pins s1 σ H1 _ I1 q1) λus s2 ⟨xs,H2,I2,r2,q2⟩=>⟨x::xs,H2,I2,.cons r1 r2,q2⟩
def QvK(t:TA):TE:=λσ H Q=>t σ H λxs H1=>xs.length<=sizeLine/\∀p,H1 p=none->Q (.ref p) (upd H1 p (.lst xs))
theorem Qnv(h:PA X es t):PE X (.List es pos) (QvK t):=by
 intro pins s σ H Q I hq;refine Qth (thn (h pos pins s σ H _ I hq) λus s1 ⟨xs,H1,I1,r,z,q⟩=>⟨by rw[<- r.length];exact z,?_⟩);have hf:H1 s1.heap.objs.size=none:=I1.hok.fresh (Qk _);refine⟨.ref s1.heap.objs.size,upd H1 s1.heap.objs.size (.lst xs),I1.laid (t':=s1.toks) (λb u e=>Qd _ e) (Qk _) ?_,rfl,q _ hf⟩;exact⟨z,us,0,r,Qp _ rfl⟩
end
abbrev Sp:=List V->Hp->VK->XK->Prop
abbrev CXT:=List Env->Hp->Shared->XK->Value->Shared->Prop
structure Env0 (P:QF) (w:Q9) (K:PySem.W.Frag) (mg:Str->Option Value) (base:JU) (A:Q6) (outer:List Env) (s:Shared) (H:Hp):Prop where
 frames:A.frames=some outer
 mod:Mod K mg base
 bs:∀b o,base.get? b=some o->s.heap.get? b=some o/\H b=none
 bsz:base.objs.size<=s.heap.objs.size
 funs:s.heap.FunFrames base outer
 frf:∀b∈frs outer,H b=none
 hok:HOk P w H s.heap
 bare:Qdg s.gens
def CE(outer:List Env)(P:QF)(w:Q9)(H:Hp)(s:Shared)(Q:VK)(u:Value)(s':Shared):Prop:=
 ∃v H',s'.os=s.os/\Qdg s'.gens/\Un (frs outer) [] H H' s.heap s'.heap/\HOk P w H' s'.heap/\RelV v u/\Q v H'
def CR(CX:CXT)(outer:List Env)(P:QF)(w:Q9)(H:Hp)(s:Shared)(Q:VK)(E:XK)(r:Qk0)(s':Shared):Prop:=
 match r with
 |.ok (.ret u)=>CE outer P w H s Q u s'
 |.ok _=>False
 |.error e=>CX outer H s E e s'
structure FnOk (P:QF) (w:Q9) (K:PySem.W.Frag) (mg:Str->Option Value) (base:JU) (CX:CXT) (k:Nat) (f:Addr) (fd:QB) (ps:List Str) (sp:Sp):Prop where
 len:∀vs H Q E,sp vs H Q E->vs.length=ps.length
 run:∀(A:Q6)(outer:List Env)(s:Shared)(H:Hp)(args:Args)(us:List Value)(vs:List V)(Q:VK)(E:XK),Room k A->Env0 P w K mg base A outer s H->Qlf s fd args (ps.zip us)->Vals vs us->sp vs H Q E ->
  codeAny (model P w) A (.call (.ref f) args) (CR CX outer P w H s Q E) s
theorem FnOk.imp{P:QF}{w:Q9}{K:PySem.W.Frag}{mg:Str->Option Value}{base:JU}{CX:CXT}{k:Nat}{f:Addr}{fd:QB}{ps:List Str}{sp sp':Sp}(F:FnOk P w K mg base CX k f fd ps sp)
  (h:∀vs H Q E,sp' vs H Q E->sp vs H Q E):FnOk P w K mg base CX k f fd ps sp':=
 ⟨λvs H Q E q=>F.len vs H Q E (h _ _ _ _ q),λA outer s H args us vs Q E hr he hb hv hs=>F.run A outer s H args us vs Q E hr he hb hv (h _ _ _ _ hs)⟩
theorem Env0.in1{P:QF}{w:Q9}{K:PySem.W.Frag}{mg:Str->Option Value}{base:JU}{A:Q6}{outer:List Env}{s:Shared}{H:Hp}(e:Env0 P w K mg base A outer s H) :
  Env0 P w K mg base A.in1 outer s H:=⟨e.frames,e.mod,e.bs,e.bsz,e.funs,e.frf,e.hok,e.bare⟩
section
variable{X:Cx}{pins:List (Addr×Obj)}{σ:St}{H:Hp}{s s':Shared}
theorem Inv.env0(I:Inv X pins σ H s):Env0 X.prog X.w X.K X.mg X.base X.A X.stack s H:=
 ⟨I.ok.frames,I.ok.mod,I.bs,QV I.ok.bsz I.sz,I.stack,I.stkFree,I.hok,I.bare⟩
theorem Inv.after{Q:VK}{u:Value}(I:Inv X pins σ H s)(h:CE X.stack X.prog X.w H s Q u s'):EP X pins σ Q u s':=by
 obtain⟨v,H',os,bare,un,hok,r,q⟩:=h;obtain⟨hh,g,d,t,os'⟩:=s';obtain rfl:os'=s.os:=os;exact⟨v,H',I.call (h':=hh) (g':=g) (d':=d) (t':=t) (ch:=[]) un hok bare (λb z=>absurd z (by simp)),r,q⟩
end
def QhE(sp:Sp)(dvs:List V)(E:XK)(t:TA):TE:=λσ H Q=>t σ H λvs H1=>sp (vs++dvs) H1 Q E
def Binds(K:PySem.W.Frag)(fd:QB)(ps:List Str)(ds:List Value):Prop:=
 ∀(s:Shared)(us:List Value),K.In s.heap->(us++ds).length=ps.length->Qlf s fd ⟨us,[]⟩ (ps.zip (us++ds))
theorem Binds.all{K:PySem.W.Frag}{fd:QB}{ps:List Str}(h:∀us:List Value,us.length=ps.length->bindArgs fd ⟨us,[]⟩=pure (ps.zip us)):Binds K fd ps []:=λs us _ hl=>by
 rw[Zn] at hl ⊢;exact .of_eq (h us hl)
def Y0(CX:CXT)(X:Cx)(E:XK):Prop:=∀(pins:List (Addr×Obj))(σ:St)(H:Hp)(s:Shared)(e:Value)(s':Shared),Inv X pins σ H s->CX X.stack H s E e s'->X.xe e s'
section
variable{X:Cx}{CX:CXT}{k:Nat}{f C:Addr}{fd:QB}{ps:List Str}{sp:Sp}{dvs:List V}{ds:List Value}{E:XK}{x m:Str}{p pos apos:Pos}{e o:QM}{es:List QM}{ta:TE}{t:TA}
theorem Qni{pins:List (Addr×Obj)}{σ:St}{H:Hp}{s:Shared}{Q:VK}{us:List Value}{vs:List V}(F:FnOk X.prog X.w X.K X.mg X.base CX k f fd ps sp)(hr:Room k X.A)(hb:Binds X.K fd ps ds)(hd:Vals dvs ds)(hx:Y0 CX X E)
  (I:Inv X pins σ H s)(r:Vals vs us)(h:sp (vs++dvs) H Q E):wpAny (model X.prog X.w) X.A (call (.ref f) us) (EP X pins σ Q) X.xe s:=by
 have r2:Vals (vs++dvs) (us++ds):=r.append hd;have hl:(us++ds).length=ps.length:=by rw[<- r2.length];exact F.len _ _ _ _ h
 refine QtF (Qch (F.run X.A X.stack s H ⟨us,[]⟩ (us++ds) (vs++dvs) Q E hr I.env0 (hb s us I.kIn hl) r2 h) λr s' hq=>?_);cases r with
 |error e=>exact hx pins σ H s e s' I hq
 |ok fl=>
  cases fl with
  |ret u=>exact I.after hq
  |next=>exact J6 hq
  |brk=>exact J6 hq
  |cont=>exact J6 hq
theorem QaJ(F:FnOk X.prog X.w X.K X.mg X.base CX k f fd ps sp)(hr:Room k X.A)(hg:Gl X x)(hm:X.mg x=some (.ref f))(hk:PySem.W.keepIn X.K (.ref f)=true)(hb:Binds X.K fd ps ds)(hd:Vals dvs ds)(hx:Y0 CX X E)
  (ha:PA X (e::es) t)(hdb:(x == ("__debug__" : Str))=false:=by decide)(he:starEach (e::es) X.env=(false,eval e X.env)::starEach es X.env:=by rfl)(hpl:(backTo pos (starEach es X.env)).any (·.1)=false:=by rfl) :
  PE X (.Call (.Name x p) (e::es) [] pos) (QhE sp dvs E t):=by
 intro pins s σ H Q I h;refine YG (Qf9 I hg hm ?_ hdb);refine PySem.W.callWith_K (h₀:=X.base) I.ok.mod.kin hk (thn (ha pos pins s σ H _ I h) λus s1 ⟨vs,H1,I1,r,q⟩=>⟨I1.kIn,?_⟩) he hpl;exact Qni F hr hb hd hx I1 r q
end
section
variable{X:Cx}{CX:CXT}{k:Nat}{f C:Addr}{fd:QB}{ps ks:List Str}{sp:Sp}{E:XK}{x m:Str}{p pos apos kpos:Pos}{e o:QM}{es:List QM}{kws:List Qhv}{te ta:TE}{t tk:TA}{nm:Option Str}
variable{g:List Value->List Value->List Value}{gV:List V->List V->List V}
end
structure Jd (N P:List Str) (sc:Z3):Prop where
 kind:sc.kind=.function
 co:sc.isCoroutine=false
 gen:sc.isGenerator=false
 nd:N.Nodup
 pre:N.take P.length=P
 par:∀x∈P,sc.names.lookup x=some .local∨sc.names.lookup x=some .cell
 nofree:∀y∈sc.names,y.2≠.free
theorem Qfx{kindOf:Str->Option Yp}{x:Str}:∀{binds:List (Str×Value)}{m:Str->Option Value},(∀v,(x,v)∉binds)->bindL kindOf binds m x=m x
 |[],_,_=>rfl
 |(n,v)::r,m,h=>by
  unfold bindL;rw[Qfx λw hw=>h w (Jj _ hw)];split
  ·have:x≠n:=by rintro rfl;exact h v JM
   simp[this]
  ·rfl
theorem Qfz{kindOf:Str->Option Yp}{x:Str}:∀{binds:List (Str×Value)}{m:Str->Option Value},(∀v,(x,v)∉binds)->bindC kindOf binds m x=m x
 |[],_,_=>rfl
 |(n,v)::r,m,h=>by
  unfold bindC;rw[Qfz λw hw=>h w (Jj _ hw)];split
  ·rfl
  ·have:x≠n:=by rintro rfl;exact h v JM
   simp[this]
theorem Qfy{kindOf:Str->Option Yp}{x:Str}{v:Value}:∀{P:List Str}{vs:List Value}{i:Nat}{m:Str->Option Value},P.Nodup->P[i]? = some x->vs[i]? = some v->kindOf x=some .local ->
  bindL kindOf (P.zip vs) m x=some v
 |[],_,_,_,_,h,_,_=>by simp at h
 |_::_,[],_,_,_,_,h,_=>by simp at h
 |p::P,w::vs,0,m,nd,h1,h2,hk=>by
  simp at h1 h2;subst h1;subst h2;show bindL kindOf ((p,w)::P.zip vs) m p=_;unfold bindL;rw[Qfx λv hv=>(Qbh.mp nd).1 (QeI hv).1,if_pos hk];simp
 |p::P,w::vs,i+1,m,nd,h1,h2,hk=>by
  show bindL kindOf ((p,w)::P.zip vs) m x=_;unfold bindL;exact Qfy (i:=i) (Qbh.mp nd).2 (by simpa using h1) (by simpa using h2) hk
theorem QfA{kindOf:Str->Option Yp}{x:Str}{v:Value}:∀{P:List Str}{vs:List Value}{i:Nat}{m:Str->Option Value},P.Nodup->P[i]? = some x->vs[i]? = some v->kindOf x≠some .local ->
  bindC kindOf (P.zip vs) m x=some v
 |[],_,_,_,_,h,_,_=>by simp at h
 |_::_,[],_,_,_,_,h,_=>by simp at h
 |p::P,w::vs,0,m,nd,h1,h2,hk=>by
  simp at h1 h2;subst h1;subst h2;show bindC kindOf ((p,w)::P.zip vs) m p=_;unfold bindC;rw[Qfz λv hv=>(Qbh.mp nd).1 (QeI hv).1,if_neg hk];simp
 |p::P,w::vs,i+1,m,nd,h1,h2,hk=>by
  show bindC kindOf ((p,w)::P.zip vs) m x=_;unfold bindC;exact QfA (i:=i) (Qbh.mp nd).2 (by simpa using h1) (by simpa using h2) hk
def start(N:List Str)(vs:List V):St:=vs.map some++QY (N.length - vs.length) none
def Qim(CX:CXT)(P:QF)(w:Q9)(K:PySem.W.Frag)(mg:Str->Option Value)(base:JU)(N:List Str)(qual:Str)(scope:Z3)(f:Addr)(cd:Value)(A:Q6)(outer:List Env)(s:Shared)(H:Hp)(E:XK):Cx where
 prog:=P
 w:=w
 K:=K
 mg:=mg
 base:=base
 A:=A.deeper (envOfC qual scope s.heap.objs.size f cd)
 N:=N
 s₀:=s
 H₀:=H
 env:=envOfC qual scope s.heap.objs.size f cd
 outer:=outer
 stack:=envOfC qual scope s.heap.objs.size f cd::outer
 ex:=[]
 calm:=true
 fn:=λ_=>true
 pn:=[]
 xe:=λe s'=>wpAny (model P w) (A.deeper (envOfC qual scope s.heap.objs.size f cd)) (leaving (envOfC qual scope s.heap.objs.size f cd) e) (λ_ s''=>CX outer H s E e s'') (λe' s''=>CX outer H s E e' s'') s'
theorem Qhk{sc:Z3}{n:Nat}{x:Str}(h:sc.names.lookup x=some .cell):∃c,(cellsFrom n sc.names []).lookup x=some c:=by
 have q:=PySem.W.cellsFrom_some sc.names n [] (.inl h);exact Option.isSome_iff_exists.mp q
theorem Qj7{CX:CXT}{P:QF}{w:Q9}{K:PySem.W.Frag}{mg:Str->Option Value}{base:JU}{N ps:List Str}{qual:Str}{scope:Z3}{f:Addr}{cd:Value}{A:Q6}{outer:List Env}{s s1:Shared}{H:Hp}{E:XK}{us:List Value}{vs:List V}
  (S:Jd N ps scope)(hd:A.handled=none)(e0:Env0 P w K mg base A outer s H)(hl:vs.length=ps.length)(r:Vals vs us)
  (x:InCallC s s.heap.objs.size (bindL (envOfC qual scope s.heap.objs.size f cd).kindOf (ps.zip us) λ_=>none) (cellsFrom (s.heap.objs.size+1) scope.names []) (bindC (envOfC qual scope s.heap.objs.size f cd).kindOf (ps.zip us) λ_=>none) s1) :
  Inv (Qim CX P w K mg base N qual scope f cd A outer s H E) [] (start N vs) H s1:=by
 have hpl:ps.length<=N.length:=by have:=congrArg List.length S.pre;rw[Qa0] at this;omega
 obtain⟨h1,tk,rfl,hk⟩:=x.done;have noA:∀b:Addr,b∉(Qim CX P w K mg base N qual scope f cd A outer s H E).ex:=λb z=>absurd (show b∈([]:List Addr) from z) (by simp)
 refine⟨⟨e0.mod,S.kind,rfl,rfl,Qk _,λy z c h1 h2=>?_,λy hy=>?_,λy c _ h=>?_,λ_=>hd,Qhy e0.frames,.inr ⟨rfl,rfl⟩,λb z=>absurd z (noA b),e0.bs,e0.bsz,λb _ _=>noA b,λb z=>absurd z (noA b),e0.funs,e0.frf⟩,
  rfl,e0.bare,Un.kept hk,⟨_,x.toInCall.ns,λi y v h1 h2 h3=>?_⟩,λy c h=>⟨_,x.cell y c h⟩,e0.hok.fresh (Qk _),λy c h=>?_,λp hp=>absurd (show p∈([]:List (Addr×Obj)) from hp) (by simp),e0.hok.kept hk,?_⟩
 ·exact name_of_addr x.apart (PySem.mem_of_lookup h1) (PySem.mem_of_lookup h2)
 ·have hy:scope.names.lookup y=some .cell∨scope.names.lookup y=some .free:=hy;rcases hy with hy | hy
  ·exact Qhk hy
  ·exact absurd rfl (S.nofree _ (PySem.mem_of_lookup hy))
 ·exact Zs (x.above y c (PySem.mem_of_lookup h))
 ·have hi:i<vs.length:=by
   unfold start at h2;by_cases hi:i<vs.length
   ·exact hi
   ·rw[Qaa (by simpa using hi)] at h2;rw[Yr] at h2;split at h2<;>cases h2
  have ha:vs[i]? = some v:=by
   unfold start at h2;rw[Qat (by simpa using hi),Qv] at h2;cases e:vs[i]? with
   |none=>rw[e] at h2;cases h2
   |some a=>rw[e] at h2;cases h2;rfl
  obtain⟨u,hu,rv⟩:=r.get ha;have hp:ps[i]? = some y:=by
   rw[<- S.pre,List.getElem?_take_of_lt (by omega)];exact h1
  have ndP:ps.Nodup:=by rw[<- S.pre];exact S.nd.sublist (Qm4 _ _)
  refine⟨u,rv,?_⟩;rcases S.par y (Qt hp) with k | k
  ·exact .inl ⟨k,Qfy ndP hp hu k⟩
  ·obtain⟨c,e⟩:=Qhk (n:=s.heap.objs.size+1) k;refine .inr ⟨.inl k,c,e,?_⟩;have q:=x.cell y c e;rw[QfA ndP hp hu (by show scope.names.lookup y≠_;rw[k];decide)] at q;exact q
 ·exact e0.hok.fresh (Zs (x.above y c (PySem.mem_of_lookup h)))
 ·unfold start;show _=N.length;rw[QC,Qe,J3];omega
theorem QsR{CX:CXT}{P:QF}{w:Q9}{K:PySem.W.Frag}{mg:Str->Option Value}{base:JU}{k:Nat}{f:Addr}{name qual:Str}{params:Qd9}{body:List ZH}{scope:Z3}{dV kV doc pm cdv ct oc:Value}{an od:Option Addr}
  {osl:Array (Option Value)} {N ps:List Str} {sp:Sp} (lk:K.lookup f=some ⟨oc,od,.func (PySem.W.fnOf name qual params body scope dV kV doc pm an cdv ct),osl⟩) (hcd:PySem.W.codeIn K cdv qual=true) (S:Jd N ps scope)
  (len:∀vs H Q E,sp vs H Q E->vs.length=ps.length)
  (hbody:∀(A:Q6)(outer:List Env)(s:Shared)(H:Hp)(vs:List V)(Q:VK)(E:XK),Room k (A.deeper (envOfC qual scope s.heap.objs.size f cdv))->sp vs H Q E ->
   ∃t,PSs (Qim CX P w K mg base N qual scope f cdv A outer s H E) body t/\t { nx:=λ_ H'=>Q .non H',rt:=Q } (start N vs) H) :
  FnOk P w K mg base CX (k+1) f (PySem.W.fnOf name qual params body scope dV kV doc pm an cdv ct) ps sp:=by
 refine⟨len,λA outer s H args us vs Q E hr e0 hb r hsp=>?_⟩;have hl:=len _ _ _ _ hsp;have KX:K.In s.heap:=e0.mod.kin.keeps λb o e=>(e0.bs b o e).1
 have lim:s.heap.NoLimit:=e0.mod.nolimit.keeps λb o e=>(e0.bs b o e).1
 have hkind:∀y∈ps.zip us,scope.names.lookup y.1=some .local∨(scope.names.lookup y.1=some .cell/\((cellsFrom (s.heap.objs.size+1) scope.names []).lookup y.1).isSome=true):=λ⟨n,v⟩ hy=>by
  rcases S.par n (QeI hy).1 with q | q
  ·exact .inl q
  ·exact .inr ⟨q,PySem.W.cellsFrom_some _ _ _ (.inl q)⟩
 refine codeAny_call_function hr.depth (KX _ _ lk) rfl S.co S.gen rfl (PySem.W.codeRec_of KX hcd) (hb _ _ _ _ ?_);refine wpAny_newFunctionEnv_cells S.kind hkind λenv he s1 x=>?_
 subst he;refine⟨lim.keeps x.toInCall.keep,codeAny_func ?_⟩;obtain⟨t,ht,hq⟩:=hbody A outer s H vs Q E (hr.deeper _) hsp;have I:Inv (Qim CX P w K mg base N qual scope f cdv A outer s H E) [] (start N vs) H s1:=Qj7 S hr.hd e0 hl r x;refine wpAny_mono (ht [] s1 (start N vs) H _ I hq) (λfl s' hs=>?_) λe s' hs=>hs
 have fin:∀{σ':St}{H':Hp}{v:V}{u:Value},Inv (Qim CX P w K mg base N qual scope f cdv A outer s H E) [] σ' H' s'->RelV v u->Q v H'->CE outer P w H s Q u s':=
  λ{σ' H' v u} J rv q=>⟨v,H',J.os,J.bare,J.base,J.hok,rv,q⟩
 cases fl with
 |ret u=>
  obtain⟨v,σ',H',J,rv,q⟩:=hs;exact fin J rv q
 |next=>
  obtain⟨σ',H',J,q⟩:=hs;exact fin (v:=V.non) (u:=Yy) J rfl q
 |brk=>
  obtain⟨_,_,_,q⟩:=hs;exact J6 q
 |cont=>
  obtain⟨_,_,_,q⟩:=hs;exact J6 q
section
variable{X:Cx}{x:Str}{p pos:Pos}{e:QM}{es:List QM}{t:TA}{id T:String}{r:List V->Hp->VK->Prop}
def tCB(r:List V->Hp->VK->Prop)(t:TA):TE:=λσ H Q=>t σ H λvs H1=>r vs H1 Q
theorem Zg(hc:CallR X (.builtin id) r)(hg:Gl X x)(hm:X.mg x=none)(hv:bootBuiltins x=some (.builtin id))(ha:PA X (e::es) t)(hn:x ≠ "__name__" := by decide)(hdb:(x == ("__debug__" : Str))=false:=by decide)
  (he:starEach (e::es) X.env=(false,eval e X.env)::starEach es X.env:=by rfl)(hpl:(backTo pos (starEach es X.env)).any (·.1)=false:=by rfl):PE X (.Call (.Name x p) (e::es) [] pos) (tCB r t):=by
 intro pins s σ H Q I h;refine YG (Qbw I hg hm hv ?_ hn hdb);exact PyProof.Rows.callWith_builtin1 (thn (ha pos pins s σ H _ I h) λus s1 ⟨vs,H1,I1,r1,q1⟩=>hc pins s1 σ H1 vs us Q I1 r1 q1) he hpl
theorem Qjh(hc:CallR X (.type T) r)(hg:Gl X x)(hm:X.mg x=none)(hv:bootBuiltins x=some (.type T))(ha:PA X (e::es) t)(hn:x ≠ "__name__" := by decide)(hdb:(x == ("__debug__" : Str))=false:=by decide)
  (he:starEach (e::es) X.env=(false,eval e X.env)::starEach es X.env:=by rfl)(hpl:(backTo pos (starEach es X.env)).any (·.1)=false:=by rfl):PE X (.Call (.Name x p) (e::es) [] pos) (tCB r t):=by
 intro pins s σ H Q I h;refine YG (Qbw I hg hm hv ?_ hn hdb);exact JG (thn (ha pos pins s σ H _ I h) λus s1 ⟨vs,H1,I1,r1,q1⟩=>hc pins s1 σ H1 vs us Q I1 r1 q1) he hpl
end
end L2
namespace HT
def lexLt:List Int->List Int->Bool
 |[],[]=>false
 |[],_::_=>true
 |_::_,[]=>false
 |x::xs,y::ys=>if x=y then lexLt xs ys else decide (x<y)
theorem QbX(x y:Int)(xs ys:List Int):lexLt (x::xs) (y::ys)=if x=y then lexLt xs ys else decide (x<y):=rfl
theorem Qbv:lexLt [] []=false:=rfl
theorem Qdi(y:Int)(ys:List Int):lexLt [] (y::ys)=true:=rfl
theorem Qdj(x:Int)(xs:List Int):lexLt (x::xs) []=false:=rfl
theorem QmP(A:Q6)(s:Shared)(a:Int)(t:Tok)(c:Int)(u:Tok):∃e,SeqAt.EqAt A s (.int a t) (.int c u) e/\(e=true↔a=c):=
 ⟨(a == c),SeqAt.EqAt.int_int a t c u,by simp⟩
theorem QgJ(A:Q6)(s:Shared)(a:Int)(t:Tok)(c:Int)(u:Tok)(prog:QF)(w:Q9)(E:Value->Shared->Prop)(Q:Value->Shared->Prop)(h:Q (.bool (decide (a<c))) s) :
  wpAny (model prog w) A (richCompare .Lt (.int a t) (.int c u)) Q E s:=
 (PyProof.Rows.lt_int h:wpAny (model prog w) A (compareOp .Lt (.int a t) (.int c u)) Q E s)
section
open PySem.SeqAt
open PySem.AutoSeq1 (wpAny_loadPart')
open PySem.MeetsSeq PySem.MeetsSeq2 PySem.MeetsSeq3
end
section
variable{prog:QF}{w:Q9}{A:Q6}{E:Value->Shared->Prop}{s:Shared}
theorem QpO{t b:Addr}{vs ws:List Value}{Q:Value->Shared->Prop}(ht:QtZ s.heap t vs.toArray)(hb:QtZ s.heap b ws.toArray)(hv:vs≠[])
  (h1:ws=[]->Q (.ref t) s)(h2:ws≠[]->Q (.ref s.heap.objs.size) { s with heap:=s.heap.push { cls:=.type "tuple",data:=.seq (vs++ws).toArray } })
  (hsz:vs.length+ws.length<=sizeLine):wpAny (model prog w) A (binaryOp .Add (.ref t) (.ref b)) Q E s:=by
 obtain⟨⟨cls,dd,data,sl⟩,ho,hc,n,hd⟩:=id ht;obtain⟨⟨cls2,dd2,data2,sl2⟩,ho2,hc2,n2,hd2⟩:=id hb;simp only at hc hd hc2 hd2;subst hc hd hc2 hd2;have e:vs.toArray++ws.toArray=(vs++ws).toArray:=by simp
 by_cases hw:ws=[]
 ·exact QnS ⟨_,ho,rfl⟩ ⟨_,ho2,rfl⟩ QfK Qk7 PySem.F.slot_tuple_add PySem.F.entry_tuple_add (PySem.F.args_tuple_add_2 _ _)
   (tuple_addW1 t b vs.toArray ws.toArray n n2 dd dd2 sl sl2 (by simpa using hv) (by simp[hw])) ⟨ho,ho2,h1 hw⟩
 ·refine QnS ⟨_,ho,rfl⟩ ⟨_,ho2,rfl⟩ QfK Qk7 PySem.F.slot_tuple_add PySem.F.entry_tuple_add (PySem.F.args_tuple_add_2 _ _)
   (tuple_addW2 t b vs.toArray ws.toArray n n2 dd dd2 sl sl2 (by simpa using hv) (by simpa using hw) (by rw[Qm,Qm];exact hsz)) ⟨ho,ho2,?_⟩
  rw[e];exact h2 hw
def sIx(n d:Nat):Option Int->Nat
 |none=>d
 |some v=>if v<0 then(v+(n:Int)).toNat else min v.toNat n
theorem Qlz(n d:Nat):sIx n d none=d:=rfl
theorem Qoc(n d k:Nat):sIx n d (some (k:Int))=min k n:=by
 show(if(k:Int)<0 then((k:Int)+(n:Int)).toNat else min (k:Int).toNat n)=min k n;rw[if_neg (by omega),Jt]
theorem Qry(n d:Nat)(hd:d<=n)(o:Option Int):sIx n d o<=n:=by
 cases o with
 |none=>exact hd
 |some v=>
  show(if v<0 then(v+(n:Int)).toNat else min v.toNat n)<=n;by_cases hv:v<0
  ·rw[if_pos hv];omega
  ·rw[if_neg hv];exact Qd4 _ _
theorem QkC(v:Int)(n d:Nat):(if v<0 then max (v+(n:Int)) 0 else min v (n:Int))=((sIx n d (some v):Nat):Int):=by
 show(if v<0 then max (v+(n:Int)) 0 else min v (n:Int))=(((if v<0 then(v+(n:Int)).toNat else min v.toNat n):Nat):Int);by_cases hv:v<0
 ·simp only[if_pos hv];omega
 ·simp only[if_neg hv];omega
theorem Qh8(lo hi:Option Int)(n:Nat):YK lo hi 1 (n:Int)=(((sIx n 0 lo:Nat):Int),((sIx n n hi:Nat):Int)):=by
 have h1:¬((1:Int)<0):=by omega
 unfold YK;simp only[h1,if_false];refine Prod.ext ?_ ?_
 ·cases lo with
  |none=>rfl
  |some v=>exact QkC v n 0
 ·cases hi with
  |none=>rfl
  |some v=>exact QkC v n n
theorem QhM(i j:Nat):ZN (i:Int) (j:Int) 1=j - i:=by
 unfold ZN;have h1:(1:Int) > 0:=by omega
 simp only[h1,if_true,Int.ediv_one];split<;>omega
theorem Qdp{v:Value}{o:Option Int}{Q:Option Int->Shared->Prop}(p:QfG v o)(h:Q o s):wpAny (model prog w) A (Qt2 v) Q E s:=by
 cases p with
 |none=>exact slicePart_none h
 |int i t=>exact slicePart_int h
theorem Qau{sl:Addr}{vl vu:Value}{lo hi:Option Int}{n:Nat}{Q:Int×Int×Nat->Shared->Prop}(hs:s.heap.IsSliceOf sl vl vu .none)(pl:QfG vl lo)(pu:QfG vu hi)
  (h:Q (((sIx n 0 lo:Nat):Int),1,sIx n n hi - sIx n 0 lo) s):wpAny (model prog w) A (Qcb (.ref sl) (pure (n:Int))) Q E s:=by
 obtain⟨os,hos,hcs,hds⟩:=id hs;unfold Qcb Qt3;refine wpAny_bind (wpAny_bind (J4 hos hds (x:=vl) rfl (wpAny_bind (J4 hos hds (x:=vu) rfl (wpAny_bind (J4 hos hds (x:=.none) rfl (Qh ?_)))))));refine wpAny_bind (slicePart_none ?_);show wpAny _ _ (if((1:Int) == 0)=true then _ else _) _ _ s;rw[if_neg (by decide)];refine wpAny_bind (Qdp pl (wpAny_bind (Qdp pu (wpAny_bind (Qh ?_)))));show wpAny _ _ (match YK lo hi 1 (n:Int) with | (lo,hi)=>pure (lo,(1:Int),ZN lo hi 1)) _ _ s;rw[Qh8 lo hi n];show wpAny _ _ (pure (((sIx n 0 lo:Nat):Int),(1:Int),ZN ((sIx n 0 lo:Nat):Int) ((sIx n n hi:Nat):Int) 1)) _ _ s;rw[QhM];exact Qh h
theorem QlO(xs:Array Value)(i k:Nat):((JN k).filterMap λ(m:Nat)=>xs[((i:Int)+(m:Int)*1).toNat]?).toArray=((xs.toList.drop i).take k).toArray:=by
 have e:(λ(m:Nat)=>xs[((i:Int)+(m:Int)*1).toNat]?)=λm=>xs[i+m]? := by
  funext m
  have:((i:Int)+(m:Int)*1).toNat=i+m:=by omega
  rw[this]
 rw[e];have:=pick_run xs i k;rw[Qcn] at this;have e2:((λx=>xs[x]?)∘λx=>i+x)=λm=>xs[i+m]? := rfl
 rw[e2] at this;rw[this]
theorem Qb2{t sl:Addr}{items:Array Value}{vl vu:Value}{lo hi:Option Int}{Q:Value->Shared->Prop}(ht:QtZ s.heap t items)(hs:s.heap.IsSliceOf sl vl vu .none)(pl:QfG vl lo)(pu:QfG vu hi)
  (hw:¬(sIx items.size 0 lo=0/\sIx items.size items.size hi=items.size))
  (h:Q (.ref s.heap.objs.size) { s with heap:=s.heap.push { cls:=.type "tuple",data:=.seq ((items.toList.drop (sIx items.size 0 lo)).take (sIx items.size items.size hi - sIx items.size 0 lo)).toArray } })
  (hsz:items.size<=sizeLine):wpAny (model prog w) A (getItem (.ref t) (.ref sl)) Q E s:=by
 have htake:sizeOk (.seq ((items.toList.drop (sIx items.size 0 lo)).take (sIx items.size items.size hi - sIx items.size 0 lo)).toArray):=by
  show((items.toList.drop (sIx items.size 0 lo)).take (sIx items.size items.size hi - sIx items.size 0 lo)).toArray.size<=sizeLine;rw[Qm,Qa0,Qn0,Zz];omega
 have hj:sIx items.size items.size hi<=items.size:=Qry _ _ (Qk _) hi;obtain⟨os,hos,hcs,hds⟩:=id hs;have hTs:s.TypeIs (.ref sl) "slice" := ⟨os,hos,hcs⟩;unfold getItem
 try with_reducible refine JQ ?_
 first | refine wpAny_bind (Qh ?_) | skip
 refine wpAny_bind (QtE ht.typeIs (by decide) ?_);refine wpAny_bind (Zp (name:=Qaq "__getitem__") ht.typeIs Jw
  (ZS Jw ht.typeIs Qra ?_ (Qti _ _)))
 show wpAny _ _ (Qca (.ref t) >>= _) _ _ s;refine wpAny_bind (tupleItemsOf_ ht ?_);refine wpAny_bind (QnQ hTs ?_);rw[if_pos (by decide)];refine wpAny_bind (Qau hs pl pu ?_);have hno:¬((((sIx items.size 0 lo:Nat):Int) == 0&&(1:Int) == 1&&(sIx items.size items.size hi - sIx items.size 0 lo) == items.size)=true):=by
  intro q;rw[Jk,Jk] at q;have q1:((sIx items.size 0 lo:Nat):Int)=0:=eq_of_beq q.1.1;have q2:sIx items.size items.size hi - sIx items.size 0 lo=items.size:=eq_of_beq q.2;exact hw ⟨by omega,by omega⟩
 show wpAny _ _ (if(((sIx items.size 0 lo:Nat):Int) == 0&&(1:Int) == 1&&(sIx items.size items.size hi - sIx items.size 0 lo) == items.size)=true then _ else _) _ _ s;rw[if_neg hno,QlO]
 first
  |exact wpAny_bind (m:=ZV _) (JB (Qh ⟨_,rfl,Qh h⟩) htake)
  |exact wpAny_bind (m:=ZV _) (JB (wpAny_bind (Qh (Qh ⟨_,rfl,Qh h⟩))) htake)
  |exact wpAny_bind (wpAny_bind (m:=ZV _) (JB (Qh (Qh ⟨_,rfl,Qh h⟩)) htake))
  |exact wpAny_bind (wpAny_bind (m:=ZV _) (JB (Qh ⟨_,rfl,Qh h⟩) htake))
end
end HT
namespace L2
abbrev TO:=St->Hp->(Option Int->Hp->Prop)->Prop
def PO(X:Cx)(e:Option QM)(t:TO):Prop:=
 ∀(pins:List (Addr×Obj))(s:Shared)(σ:St)(H:Hp)(Q:Option Int->Hp->Prop),Inv X pins σ H s->t σ H Q ->
  wpAny (model X.prog X.w) X.A (evalPart e X.env) (λu s'=>∃o H',Inv X pins σ H' s'/\QfG u o/\Q o H') X.xe s
def Qn3:TO:=λ_ H Q=>Q none H
def Qt7(t:TE):TO:=λσ H Q=>t σ H λx H1=>∃i,x=.int i/\Q (some i) H1
theorem intsAre_of{ns:List Int}:∀{us:List Value},Vals (ns.map V.int) us->YH us ns:=by
 induction ns with
 |nil=>intro us r;rw[Qif] at r;cases r;exact .nil
 |cons n ns ih=>
  intro us r;rw[ZB] at r;cases r with
  |cons r1 r2=>
   obtain⟨t,e⟩:=r1;subst e;exact .cons n t (ih r2)
section
variable{X:Cx}{e:QM}{te:TE}{lo hi:Option QM}{tl th:TO}{pos p2:Pos}
theorem Qou:PO X none Qn3:=by
 intro pins s σ H Q I h;rw[evalPart_none];exact Qh ⟨none,H,I,.none,h⟩
theorem Qot(h:PE X e te):PO X (some e) (Qt7 te):=by
 intro pins s σ H Q I hw;rw[evalPart_some];refine thn (h pins s σ H _ I hw) λu s1 ⟨x,H1,I1,r1,q1⟩=>?_
 obtain⟨i,rfl,q⟩:=q1;obtain⟨t,rfl⟩:=r1;exact⟨some i,H1,I1,.int i t,q⟩
def SlR(X:Cx)(r:V->Option Int->Option Int->Hp->VK->Prop):Prop:=
 ∀(pins:List (Addr×Obj))(s:Shared)(σ:St)(H:Hp)(x:V)(v vl vu:Value)(lo hi:Option Int)(sl:Addr)(Q:VK),Inv X pins σ H s->RelV x v->s.heap.IsSliceOf sl vl vu .none->QfG vl lo->QfG vu hi->r x lo hi H Q ->
  ∃T id,typeLookup (.type T) "__getitem__" = pure (some (.builtin id))/\s.TypeIs v T/\wpAny (model X.prog X.w) X.A (getItem v (.ref sl)) (EP X pins σ Q) X.xe s
def tSl(r:V->Option Int->Option Int->Hp->VK->Prop)(te:TE)(tl th:TO):TE:=λσ H Q=>te σ H λx H1=>tl σ H1 λl H2=>th σ H2 λu H3=>r x l u H3 Q
theorem QlQ{r:V->Option Int->Option Int->Hp->VK->Prop}(hr:SlR X r)(he:PE X e te)(hl:PO X lo tl)(hu:PO X hi th):PE X (.Subscript e (.Slice lo hi none p2) pos) (tSl r te tl th):=by
 intro pins s σ H Q I h;refine Subscript_ (thn (he pins s σ H _ I h) λv s1 ⟨x,H1,I1,r1,q1⟩=>?_);refine wpAny_Slice (thn (hl pins s1 σ H1 _ I1 q1) λvl s2 ⟨l,H2,I2,pl,q2⟩=>thn (hu pins s2 σ H2 _ I2 q2) λvu s3 ⟨u,H3,I3,pu,q3⟩=>?_);rw[evalPart_none];refine Qh ?_
 have I4:Inv X pins σ H3 { s3 with heap:=s3.heap.push { cls:=.type "slice",data:=.fields #[vl,vu,.none] } }:=I3.kept (t':=s3.toks) λb ob q=>Qd _ q
 obtain⟨T,id,hT,ht,hg⟩:=hr pins { s3 with heap:=s3.heap.push { cls:=.type "slice",data:=.fields #[vl,vu,.none] } } σ H3 x v vl vu l u s3.heap.objs.size Q I4 r1 (Qtp ..) pl pu q3;show wpAny (model X.prog X.w) X.A (subscriptTail e (.Slice lo hi none p2) v (.ref s3.heap.objs.size)) (EP X pins σ Q) X.xe { s3 with heap:=s3.heap.push { cls:=.type "slice",data:=.fields #[vl,vu,.none] } };exact tail_any (ops:=[.ref s3.heap.objs.size,v]) ht hT hg (by with_unfolding_all rfl)
def Qin(xs:List V)(lo hi:Option Int):List V:=(xs.drop (HT.sIx xs.length 0 lo)).take (HT.sIx xs.length xs.length hi - HT.sIx xs.length 0 lo)
theorem Qc2(xs:List V)(lo hi:Option Int):(Qin xs lo hi).length<=xs.length:=by
 unfold Qin;rw[Qa0,Qn0];omega
def QvN(K:PySem.W.Frag):V->Option Int->Option Int->Hp->VK->Prop:=λx lo hi H Q=>∃a xs,x=.ref a/\SqT K H a xs /\
 ¬(HT.sIx xs.length 0 lo=0/\HT.sIx xs.length xs.length hi=xs.length)/\∀p,H p=none->Q (.ref p) (upd H p (.tup (Qin xs lo hi)))
theorem Qrv:SlR X (QvN X.K):=by
 intro pins s σ H x v vl vu lo hi sl Q I rx hs pl pu h;obtain⟨a,xs,rfl,hx,hw,q⟩:=h;cases rx;obtain⟨its,r,ht,hz⟩:=I.tuple hx;have hlen:its.toArray.size=xs.length:=by rw[Qm];exact r.length.symm
 refine⟨"tuple",_,Jw.lookup,ht.typeIs,?_⟩;refine HT.Qb2 ht hs pl pu (by rw[hlen];exact hw) ?_ (by rw[hlen];exact hz)
 rw[hlen];refine⟨.ref s.heap.objs.size,_,I.laid (t':=s.toks) (o:=.tup (Qin xs lo hi)) (λb ob q=>Qd _ q) (Qk _) ?_,rfl,q _ (I.hok.fresh (Qk _))⟩;exact⟨QV (Qc2 xs lo hi) hz,_,(r.drop (HT.sIx xs.length 0 lo)).take (HT.sIx xs.length xs.length hi - HT.sIx xs.length 0 lo),TupN.new _ _⟩
def Quj(K:PySem.W.Frag):R2:=λx y H Q=>∃a b xs ys,x=.ref a/\y=.ref b/\SqT K H a xs/\SqT K H b ys/\xs≠[]/\xs.length+ys.length<=sizeLine /\
 (ys=[]->Q (.ref a) H)/\(ys≠[]->∀p,H p=none->Q (.ref p) (upd H p (.tup (xs++ys))))
theorem Vals.nil_iff{xs:List V}{us:List Value}(r:Vals xs us):us=[]↔xs=[]:=by
 cases r with
 |nil=>simp
 |cons _ _=>simp
theorem Qo2:OpR X (binaryOp .Add) (Quj X.K):=by
 intro pins s σ H x y v u Q I rx ry h;obtain⟨a,b,xs,ys,rfl,rfl,ha,hb,hx,hz,q1,q2⟩:=h;cases rx;cases ry;obtain⟨its,r1,p1,_⟩:=I.tuple ha;obtain⟨its2,r2,p2,_⟩:=I.tuple hb;refine HT.QpO p1 p2 (λz=>hx (r1.nil_iff.mp z)) (λz=>⟨.ref a,H,I,rfl,q1 (r2.nil_iff.mp z)⟩) (λz=>?_) (by rw[<- r1.length,<- r2.length];exact hz);refine⟨.ref s.heap.objs.size,_,I.laid (t':=s.toks) (o:=.tup (xs++ys)) (λb ob q=>Qd _ q) (Qk _) ?_,rfl,q2 (λw=>z (r2.nil_iff.mpr w)) _ (I.hok.fresh (Qk _))⟩;exact⟨by rw[QC];exact hz,_,r1.append r2,TupN.new _ _⟩
end
def ixN(n:Nat)(i:Int):Option Nat:=if 0<=i then(if i<n then some i.toNat else none) else if -(n:Int)<=i then some (i+n).toNat else none
def atI{α:Type}(xs:List α)(i:Int):Option α:=(ixN xs.length i).bind λj=>xs[j]?
theorem Qj4{n:Nat}{i:Int}{j:Nat}(h:ixN n i=some j):seqIndex? i n=some j/\j<n /\ -(n:Int)<=i/\i<n:=by
 unfold ixN at h;by_cases h0:0<=i
 ·rw[if_pos h0] at h;by_cases h1:i<n
  ·rw[if_pos h1] at h;have e:i.toNat=j:=Qq h;exact⟨by rw[Qhr h0 h1,e],by omega,by omega,h1⟩
  ·rw[if_neg h1] at h;cases h
 ·rw[if_neg h0] at h;by_cases h1 : -(n:Int)<=i
  ·rw[if_pos h1] at h;have e:(i+n).toNat=j:=Qq h;exact⟨by rw[QfC (by omega) h1,e],by omega,h1,by omega⟩
  ·rw[if_neg h1] at h;cases h
theorem Qgo{α:Type}{xs:List α}{i:Int}{v:α}(h:atI xs i=some v):∃j,seqIndex? i xs.length=some j/\xs[j]? = some v/\j<xs.length /\ -(xs.length:Int)<=i/\i<xs.length:=by
 unfold atI at h;cases e:ixN xs.length i with
 |none=>rw[e] at h;cases h
 |some j=>
  rw[e] at h;obtain⟨h1,h2,h3,h4⟩:=Qj4 e;exact⟨j,h1,h,h2,h3,h4⟩
theorem Zk{α:Type}{xs:List α}{j:Nat}{v:α}(h:xs[j]? = some v):atI xs (j:Int)=some v:=by
 have hj:j<xs.length:=(Qr.mp h).1;have e:ixN xs.length (j:Int)=some j:=by
  unfold ixN;rw[if_pos (by omega),if_pos (by omega)];simp
 unfold atI;rw[e];exact h
theorem Qho{α:Type}(xs:List α)(v:α):atI (xs++[v]) (-1)=some v:=by
 have hl:(xs++[v]).length=xs.length+1:=by simp
 have e:ixN (xs++[v]).length (-1)=some xs.length:=by
  unfold ixN;rw[hl,if_neg (by decide),if_pos (by omega)]
  congr 1
  omega
 unfold atI;rw[e];show(xs++[v])[xs.length]? = some v;simp
def Qgs(b:QM):Prop:=∀o i,subscripted b false o i=operate [o,i] (getItem o i)
def IxR(X:Cx)(r:R2):Prop:=
 ∀(value slice:QM)(pins:List (Addr×Obj))(s:Shared)(σ:St)(H:Hp)(x y:V)(v u:Value)(Q:VK),Inv X pins σ H s->RelV x v->RelV y u->r x y H Q ->
  subscripted slice false v u=operate [v,u] (getItem v u)->wpAny (model X.prog X.w) X.A (subscriptTail value slice v u) (EP X pins σ Q) X.xe s
def MtR(X:Cx)(id:String)(r:V->List V->Hp->VK->Prop):Prop:=
 ∀(pins:List (Addr×Obj))(s:Shared)(σ:St)(H:Hp)(x:V)(xs:List V)(v:Value)(us:List Value)(Q:VK),Inv X pins σ H s->RelV x v->Vals xs us->r x xs H Q ->
  wpAny (model X.prog X.w) X.A (call (.builtin id) (v::us)) (EP X pins σ Q) X.xe s
section
variable{X:Cx}{a b:QM}{ta tb:TE}{pos:Pos}
theorem QlR{r:R2}(hr:IxR X r)(ha:PE X a ta)(hb:PE X b tb)(hs:Qgs b):PE X (.Subscript a b pos) (tOp r ta tb):=by
 intro pins s σ H Q I h;exact Subscript_ (QuT ha hb I h λv u s2 x y H2 I2 rx ry q=>hr a b pins s2 σ H2 x y v u Q I2 rx ry q (hs _ _))
def Qtu(K:PySem.W.Frag):R2:=λx y H Q=>∃p xs i v,x=.ref p/\y=.int i/\SqL K H p xs/\atI xs i=some v/\Q v H
def Qu5(K:PySem.W.Frag):R2:=λx y H Q=>∃p xs i v,x=.ref p/\y=.int i/\SqT K H p xs/\atI xs i=some v/\Q v H
theorem Qes:IxR X (Qtu X.K):=by
 intro value slice pins s σ H x y v u Q I rx ry h hs;obtain⟨p,xs,i,z,rfl,rfl,hq,he,q⟩:=h;cases rx;obtain⟨t,rfl⟩:=ry;obtain⟨its,r,pl,hz⟩:=I.list hq;obtain⟨j,h1,h2,h3,h4,h5⟩:=Qgo he;obtain⟨w,ew,rw'⟩:=r.get h2;have hl:=r.length;have hn:=QdG;have fin:EP X pins σ Q w s:=⟨z,H,I,rw',q⟩;by_cases h0:0<=i
 ·have hj:i.toNat=j:=by
   rw[Qhr h0 h5] at h1;exact Qq h1
  exact item_listR pl.isList h0 (by omega) (by rw[hj];simpa using ew) fin hs
 ·have hj:(i+(its.toArray.size:Int)).toNat=j:=by
   rw[QfC (by omega) h4] at h1;rw[Qm,<- hl];exact Qq h1
  exact QmY (x:=w) pl.isList.typeIs QtJ.lookup
   (QmX (Q:=λr s'=>r=w/\EP X pins σ Q r s') pl.isList (by omega) (by rw[Qm]<;>omega) (by omega) (by rw[hj];simpa using ew) ⟨rfl,fin⟩) hs
theorem QsI:IxR X (Qu5 X.K):=by
 intro value slice pins s σ H x y v u Q I rx ry h hs;obtain⟨p,xs,i,z,rfl,rfl,hq,he,q⟩:=h;cases rx;obtain⟨t,rfl⟩:=ry;obtain⟨its,r,pl,hz⟩:=I.tuple hq;obtain⟨j,h1,h2,h3,h4,h5⟩:=Qgo he;obtain⟨w,ew,rw'⟩:=r.get h2;have hl:=r.length;have hn:=QdG;have fin:EP X pins σ Q w s:=⟨z,H,I,rw',q⟩;exact QmY (x:=w) pl.typeIs slot_tuple_getitem.lookup
  (getItem_tuple (j:=j) (Q:=λr s'=>r=w/\EP X pins σ Q r s') pl (by omega) (by omega) (by rw[Qm,<- hl];exact h1) (by simpa using ew) ⟨rfl,fin⟩) hs
theorem QhU(its:List Value)(n j:Nat)(u:Value):QbC (·.setIfInBounds j u) { cls:=.type "list",data:=.seq its.toArray n }={ cls:=.type "list",data:=.seq (its.set j u).toArray n }:=by
 simp[QbC]
theorem Inv.lst{pins:List (Addr×Obj)}{σ:St}{H:Hp}{s:Shared}{p:Addr}{xs:List V}(I:Inv X pins σ H s)(h:H p=some (.lst xs)) :
  ∃(its:List Value)(n:Nat),Vals xs its/\s.heap.get? p=some { cls:=.type "list",data:=.seq its.toArray n }/\xs.length<=sizeLine:=by
 obtain⟨z,its,n,r,e⟩:=I.hok p _ h;exact⟨its,n,r,e,z⟩
theorem Inv.lstUpd{pins:List (Addr×Obj)}{σ:St}{H:Hp}{s:Shared}{p:Addr}{xs ys:List V}{its its':List Value}{n n':Nat}{f:Obj->Obj}(I:Inv X pins σ H s)(h:H p=some (.lst xs))
  (ho:s.heap.get? p=some { cls:=.type "list",data:=.seq its.toArray n })(hf:f { cls:=.type "list",data:=.seq its.toArray n }={ cls:=.type "list",data:=.seq its'.toArray n' })(r:Vals ys its')(hz:ys.length<=sizeLine)(t:Nat) :
  Inv X pins σ (upd H p (.lst ys)) { s with heap:=s.heap.update p f,toks:=t }:=by
 have e:(s.heap.update p f).get? p=some { cls:=.type "list",data:=.seq its'.toArray n' }:=by
  rw[YJ f ho (by rw[hf]<;>rfl),hf]
 refine I.write (x:=p) (e:=p) (by rw[h];trivial) (.inl rfl) (λb u hb q=>(JT _ _ (QaB hb)).trans q) ⟨_,e⟩ ?_
 exact⟨hz,its',n',r,e⟩
def Qog:V->V->V->Hp->(Hp->Prop)->Prop:=λo i v H Q=>∃p xs k j,o=.ref p/\i=.int k/\H p=some (.lst xs)/\ixN xs.length k=some j/\Q (upd H p (.lst (xs.set j v)))
theorem Qee:QuW X Qog:=by
 intro pins s σ H o i v ov iv u Q I ro ri rv h;obtain⟨p,xs,k,j,rfl,rfl,hp,hj,q⟩:=h;cases ro;obtain⟨t,rfl⟩:=ri;obtain⟨its,n,r,ho,hz⟩:=I.lst hp;obtain⟨h1,h2,h3,h4⟩:=Qj4 hj;have hl:=r.length;have hn:=QdG;have I':Inv X pins σ (upd H p (.lst (xs.set j v))) { s with heap:=s.heap.update p (QbC (·.setIfInBounds j u)) }:=
  I.lstUpd hp ho (QhU its n j u) (r.set rv j) (by rw[Zl];exact hz) s.toks
 by_cases h0:0<=k
 ·have hk:k.toNat=j:=by
   rw[Qhr h0 h4] at h1;exact Qq h1
  exact PySem.W.ki_setAt ho h0 (by omega) (by rw[Qm,<- hl];exact h4) (by rw[hk];exact⟨_,I',q⟩)
 ·have hk:(k+(its.toArray.size:Int)).toNat=j:=by
   rw[QfC (by omega) h3] at h1;rw[Qm,<- hl];exact Qq h1
  exact PySem.W.ki_setBack ho (by omega) (by rw[Qm,<- hl];exact h3) (by omega) (by rw[hk];exact⟨_,I',q⟩)
theorem Qe5(lo hi:Option Int)(n:Nat):(sliceBounds lo hi none n).1=((HT.sIx n 0 lo:Nat):Int)/\(sliceBounds lo hi none n).2.1=((HT.sIx n n hi:Nat):Int)/\(sliceBounds lo hi none n).2.2=1:=by
 refine⟨?_,?_,rfl⟩
 ·cases lo with
  |none=>simp[sliceBounds,HT.sIx]
  |some i=>
   simp only[sliceBounds,HT.sIx,Qlb,show(1:Int) > 0 by decide,if_true];by_cases h:i<0
   ·simp only[h,if_true]<;>omega
   ·simp only[h,if_false]<;>omega
 ·cases hi with
  |none=>simp[sliceBounds,HT.sIx]
  |some i=>
   simp only[sliceBounds,HT.sIx,Qlb,show(1:Int) > 0 by decide,if_true];by_cases h:i<0
   ·simp only[h,if_true]<;>omega
   ·simp only[h,if_false]<;>omega
theorem Qed(its:List Value)(lo hi:Option Int):slicePick its.toArray lo hi none=((its.drop (HT.sIx its.length 0 lo)).take (HT.sIx its.length its.length hi - HT.sIx its.length 0 lo)).toArray:=by
 obtain⟨h1,h2,h3⟩:=Qe5 lo hi its.toArray.size;unfold slicePick;rw[h1,h2,h3];simp only[sliceRange_one,pick_run,Qm]<;>rfl
def QvO(K:PySem.W.Frag):V->Option Int->Option Int->Hp->VK->Prop:=λx lo hi H Q=>∃a xs,x=.ref a/\SqL K H a xs/\∀p,H p=none->Q (.ref p) (upd H p (.lst (Qin xs lo hi)))
theorem Qn6:SlR X (QvO X.K):=by
 intro pins s σ H x v vl vu lo hi sl Q I rx hs pl pu h;obtain⟨a,xs,rfl,hx,q⟩:=h;cases rx;obtain⟨its,r,ht,hz⟩:=I.list hx;have hlen:=r.length;refine⟨"list",_,QtJ.lookup,ht.isList.typeIs,?_⟩;refine wpAny_getItem_list_slice ht.isList hs pl pu .none (by simp) ?_ (by rw[Qm]<;>omega)
 rw[Qed,<- hlen];refine⟨.ref s.heap.objs.size,_,I.laid (t':=s.toks) (o:=.lst (Qin xs lo hi)) (λb ob q=>Qd _ q) (Qk _) ?_,rfl,q _ (I.hok.fresh (Qk _))⟩;exact⟨QV (Qc2 xs lo hi) hz,_,0,(r.drop (HT.sIx xs.length 0 lo)).take (HT.sIx xs.length xs.length hi - HT.sIx xs.length 0 lo),Qp _ rfl⟩
theorem Yx:CallR X (.builtin "len") (λxs H Q=>∃p ys,xs=[.ref p]/\(SqL X.K H p ys∨SqT X.K H p ys)/\Q (.int ys.length) H):=by
 intro pins s σ H xs us Q I r h;obtain⟨p,ys,rfl,hq,q⟩:=h;obtain⟨u,rfl,rx⟩:=vals1 r;cases rx;have hn:=QdG;rcases hq with hq | hq
 ·obtain⟨its,r',pl,hz⟩:=I.list hq;have hlen:=r'.length;exact Calls.call_len_list pl.isList (by simp only[Qm]<;>omega) ⟨.int ys.length,H,I.tok _,⟨s.toks+1,by rw[Qm,hlen]⟩,q⟩
 ·obtain⟨its,r',pl,hz⟩:=I.tuple hq;have hlen:=r'.length;exact len_tuple pl (by simp only[Qm]<;>omega) ⟨.int ys.length,H,I.tok _,⟨s.toks+1,by rw[Qm,hlen]⟩,q⟩
theorem QeD:CallR X (.type "tuple") (λxs H Q=>∃p ys,xs=[.ref p]/\((SqL X.K H p ys/\∀l,H l=none->Q (.ref l) (upd H l (.tup ys)))∨(SqT X.K H p ys/\Q (.ref p) H))):=by
 intro pins s σ H xs us Q I r h;obtain⟨p,ys,rfl,h⟩:=h;obtain⟨u,rfl,rx⟩:=vals1 r;cases rx;rcases h with⟨hq,q⟩ | ⟨hq,q⟩
 ·obtain⟨its,r',pl,hz⟩:=I.list hq;have hlen:=r'.length;refine call_tuple_list pl.isList (λh' kp=>?_) (by simp only[Qm]<;>omega);have I1:Inv X pins σ H { s with heap:=h' }:=I.kept (t':=s.toks) kp;have I2:Inv X pins σ (upd H h'.objs.size (.tup ys)) { s with heap:=h'.push { cls:=.type "tuple",data:=.seq its.toArray } }:=
   I1.laid (t':=s.toks) (λb o e=>Qd _ e) (Qk _) (show ObjOk X.prog X.w _ _ _ (.tup ys) from⟨hz,its,r',TupN.new _ _⟩)
  exact⟨.ref h'.objs.size,_,I2,rfl,q _ (I1.hok.fresh (Qk _))⟩
 ·obtain⟨its,r',pl,hz⟩:=I.tuple hq;exact call_tuple_same pl ⟨.ref p,H,I,rfl,q⟩
def tyV(K:PySem.W.Frag)(T:String)(x:V)(H:Hp):Prop:=match x with
 |.str _=>T = "str"
 |.int _=>T = "int"
 |.ref p=>(T = "list" /\ ∃xs,SqL K H p xs)∨(T = "tuple" /\ ∃o,K.lookup p=some o/\o.cls=.type "tuple" /\ o.dict=none) ∨
   (T = "dict" /\ ((∃kvs,H p=some (.dK kvs))∨∃kvs,H p=some (.dT kvs)))∨(T = "set" /\ ∃S n,H p=some (.set S n))
 |_=>False
theorem Qrj{pins:List (Addr×Obj)}{σ:St}{H:Hp}{s:Shared}{T:String}{x:V}{v:Value}(I:Inv X pins σ H s)(r:RelV x v)(ty:tyV X.K T x H) :
  s.TypeIs v T/\∀a,v=.ref a->∃ob,s.heap.get? a=some ob/\ob.dict=none:=by
 cases x with
 |str z=>
  obtain⟨t,rfl⟩:=r;cases(show T = "str" from ty);exact⟨typeIs_str s z t,λ_ e=>nomatch e⟩
 |int i=>
  obtain⟨t,rfl⟩:=r;cases(show T = "int" from ty);exact⟨QtI s i t,λ_ e=>nomatch e⟩
 |ref p=>
  cases r;rcases ty with⟨rfl,xs,hq⟩ | ⟨rfl,o,hk,hc,hd⟩ | ⟨rfl,hk⟩ | ⟨rfl,S,n,hk⟩
  ·obtain⟨its,_,pl,_⟩:=I.list hq;refine⟨pl.isList.typeIs,λa e=>?_⟩;cases e;obtain⟨o,n,e,c,hd,_⟩:=pl;exact⟨o,e,hd⟩
  ·refine⟨⟨o,I.kIn p o hk,hc⟩,λa e=>?_⟩;cases e;exact⟨o,I.kIn _ o hk,hd⟩
  ·have z:∃o,s.heap.get? p=some o/\o.ExactDict:=by
    rcases hk with⟨kvs,hk⟩ | ⟨kvs,hk⟩
    ·obtain⟨_,_,_,_,o,_,_,e,ex,_⟩:=I.hok p _ hk;exact⟨o,e,ex⟩
    ·obtain⟨_,_,_,_,o,_,_,e,ex,_⟩:=I.hok p _ hk;exact⟨o,e,ex⟩
   obtain⟨o,e,ex⟩:=z;refine⟨⟨o,e,ex.1⟩,λa e2=>?_⟩;cases e2;exact⟨o,e,ex.2.1⟩
  ·obtain⟨o,_,_,_,e,ex,_⟩:=I.hok p _ hk;refine⟨⟨o,e,ex.1⟩,λa e2=>?_⟩;cases e2;exact⟨o,e,ex.2.1⟩
 |_=>exact J6 ty
def tBM(K:PySem.W.Frag)(T:String)(r:V->List V->Hp->VK->Prop)(to:TE)(t:TA):TE:=λσ H Q=>to σ H λx H1=>tyV K T x H1/\t σ H1 λxs H2=>r x xs H2 Q
variable{o e:QM}{es:List QM}{to:TE}{t:TA}{name:Str}{apos cpos:Pos}{T id:String}{r:V->List V->Hp->VK->Prop}
theorem QrY(pa:PlainAttrs T)(slot:Slot T name id)(hty:typeOf (.builtin id)=pure (.type "method_descriptor"))(hm:MtR X id r)(ho:PE X o to)(ha:PA X (e::es) t)
  (hbase:attributeBase o name X.env (eval o X.env)=eval o X.env:=by rfl)
  (hfew:((backTo cpos (starEach (e::es) X.env)).all (λx => !x.1)&&(backToKw cpos (keywordEach [] X.env)).all (λx=>x.1.isSome)
   && decide ((e::es).length+([]:List Qhv).length+(if([]:List Qhv).isEmpty then 0 else 1)<30))=true:=by rfl)
  (hline:(apos.endLine == cpos.line)=true:=by rfl) (hs:starEach (e::es) X.env=(false,eval e X.env)::starEach es X.env:=by rfl) (hplain:(backTo cpos (starEach es X.env)).any (·.1)=false:=by rfl) :
  PE X (.Call (.Attribute o name apos) (e::es) [] cpos) (tBM X.K T r to t):=by
 intro pins s σ H Q I h;refine wpAny_Call_method_late hbase hfew hline rfl (thn (ho pins s σ H _ I h) λv s1 ⟨x,H1,I1,r1,ty,q1⟩=>?_);obtain⟨h1,h2⟩:=Qrj I1 r1 ty;refine⟨T,id,pa,slot,hty,h1,h2,?_⟩;have hA:=ha cpos pins s1 σ H1 _ I1 q1;rw[hs] at hA ⊢;refine Calls.callWith_builtin (by show(false||(backTo cpos (starEach es X.env)).any (·.1))=false;rw[hplain]<;>rfl) (Calls.evalArgs_plain ?_);exact thn hA λus s2 ⟨vs,H2,I2,r2,q2⟩=>hm pins s2 σ H2 x vs v us Q I2 r1 r2 q2
end
def MtM(X:Cx)(id:String)(r:V->List V->Hp->VK->Prop):Prop:=
 ∀(pins:List (Addr×Obj))(s:Shared)(σ:St)(H:Hp)(x:V)(xs:List V)(v:Value)(us:List Value)(Q:VK),Inv X pins σ H s->RelV x v->Vals xs us->r x xs H Q ->
  wpAny (model X.prog X.w) X.A (call (.builtin id) (v::us)) (EP X pins σ Q) X.xe s
theorem Vals.one:∀{x:V}{us:List Value},Vals [x] us->∃u,us=[u]/\RelV x u
 |_,_,.cons r .nil=>⟨_,rfl,r⟩
theorem Vals.zero:∀{us:List Value},Vals [] us->us=[]
 |_,.nil=>rfl
theorem Vals.rep{xs:List V}{us:List Value}(h:Vals xs us):∀k:Nat,Vals (QY k xs).flatten (QY k us).flatten
 |0=>.nil
 |k+1=>by
  rw[Jr,Jr,Zj,Zj];exact Vals.append h (Vals.rep h k)
theorem foldl_rep(its:List Value):∀(k:Nat)(acc:List Value),
  Qm7 (λx1 x2=>x1++x2) acc.toArray (QY k its.toArray)=(acc++(QY k its).flatten).toArray
 |0,acc=>by simp
 |k+1,acc=>by
  have e:acc.toArray++its.toArray=(acc++its).toArray:=by simp
  have e2:(acc++its)++(QY k its).flatten=acc++(QY (k+1) its).flatten:=by
   rw[Jr,Zj,Qm8]
  rw[<- e2,<- foldl_rep its k (acc++its),<- e,Jr,List.foldl_cons]
section
variable{X:Cx}{pins:List (Addr×Obj)}{σ:St}{H:Hp}{s:Shared}{l b:Addr}{xs ys zs:List V}
theorem Inv.lset{its its':List Value}{n:Nat}{f:Array Value->Array Value}{t':Nat}(I:Inv X pins σ H s)(hH:H l=some (.lst xs))
  (e:s.heap.get? l=some { cls:=.type "list",data:=.seq its.toArray n })(hf:f its.toArray=its'.toArray)(hv:Vals ys its')(hz:ys.length<=sizeLine) :
  Inv X pins σ (upd H l (.lst ys)) { s with heap:=s.heap.update l (QbC f),toks:=t' }:=by
 have q:=PySem.IsL.update e f;rw[hf] at q;refine I.write (x:=l) (e:=l) (by rw[hH];exact trivial) (.inl rfl) (λb' u hb hu=>(JT s.heap (QbC f) (QaB hb)).trans hu) ⟨_,q⟩ ?_
 exact⟨hz,its',_,hv,q⟩
theorem Inv.lnew{its:List Value}{t':Nat}(I:Inv X pins σ H s)(hv:Vals ys its)(hz:ys.length<=sizeLine) :
  Inv X pins σ (upd H s.heap.objs.size (.lst ys)) { s with heap:=s.heap.push { cls:=.type "list",data:=.seq its.toArray },toks:=t' }:=
 I.laid (λ_ _ q=>Qd _ q) (Qk _) ⟨hz,its,0,hv,Qp _ rfl⟩
theorem Inv.fresh(I:Inv X pins σ H s):H s.heap.objs.size=none:=I.hok.fresh (Qk _)
theorem Inv.lstM(I:Inv X pins σ H s)(hH:H l=some (.lst xs)):xs.length<=sizeLine/\∃(its:List Value)(n:Nat),Vals xs its/\xs.length=its.length/\s.heap.get? l=some { cls:=.type "list",data:=.seq its.toArray n }:=by
 obtain⟨z,its,n,r,e⟩:=I.hok l _ hH;exact⟨z,its,n,r,r.length,e⟩
theorem QgW{n:Nat}(h:n<=sizeLine):ZX n=false:=by
 unfold ZX;exact decide_eq_false (by omega)
end
section
variable{X:Cx}
def Qi7:V->List V->Hp->VK->Prop:=λx vs H Q=>∃l xs y,x=.ref l/\vs=[y]/\H l=some (.lst xs)/\xs.length<sizeLine/\Q .non (upd H l (.lst (xs++[y])))
theorem Qff:MtM X "list.append" Qi7:=by
 intro pins s σ H x vs v us Q I rx rv h;obtain⟨l,xs,y,rfl,rfl,hH,hz,q⟩:=h;cases rx;obtain⟨u,rfl,ru⟩:=rv.one;obtain⟨z,its,n,r,hl,e⟩:=I.lstM hH;refine QkZ F.slot_list_append ⟨_,e,rfl⟩ F.entry_list_append (F.args_list_append_2 _ _) (PySem.list_append l its.toArray n u (by rw[Qm];omega)) ⟨e,?_⟩;refine⟨.non,_,I.lset (its':=its++[u]) hH e (by simp) (r.append (.cons ru .nil)) ?_,rfl,q⟩;rw[QC,List.length_singleton];omega
def Qi6:V->List V->Hp->VK->Prop:=λx vs H Q=>∃l b xs zs,x=.ref l/\vs=[.ref b]/\H l=some (.lst xs)/\H b=some (.lst zs)/\xs.length+zs.length<=sizeLine/\Q .non (upd H l (.lst (xs++zs)))
theorem QjP:MtM X "list.extend" Qi6:=by
 intro pins s σ H x vs v us Q I rx rv h;obtain⟨l,b,xs,zs,rfl,rfl,hH,hB,hz,q⟩:=h;cases rx;obtain⟨u,rfl,ru⟩:=rv.one;cases ru;obtain⟨z,its,n,r,hl,e⟩:=I.lstM hH;obtain⟨z2,its2,n2,r2,hl2,e2⟩:=I.lstM hB;have hsz:its.toArray.size+its2.toArray.size<=sizeLine:=by rw[Qm,Qm];omega
 have hlong:¬(!its.toArray.isEmpty&&ZX (its.toArray.size+its2.toArray.size))=true:=by
  rw[QgW hsz,Bool.and_false];exact Qj
 refine QkZ F.slot_list_extend ⟨_,e,rfl⟩ F.entry_list_extend (F.args_list_extend_2 _ _)
  (AutoSeq1.list_extend_list_list_0 l its.toArray n b its2.toArray n2 hlong (by rw[Qm];omega) (by omega)) ⟨e,e2,?_⟩
 refine⟨.non,_,I.lset (its':=its++its2) hH e (by simp) (r.append r2) ?_,rfl,q⟩;rw[QC];omega
def Qvd:R2:=λx y H Q=>∃l b xs zs,x=.ref l/\y=.ref b/\H l=some (.lst xs)/\H b=some (.lst zs)/\xs.length+zs.length<=sizeLine/\∀p,H p=none->Q (.ref p) (upd H p (.lst (xs++zs)))
theorem Qsn:OpR X (binaryOp .Add) Qvd:=by
 intro pins s σ H x y v u Q I rx ry h;obtain⟨l,b,xs,zs,rfl,rfl,hH,hB,hz,q⟩:=h;cases rx;cases ry;obtain⟨z,its,n,r,hl,e⟩:=I.lstM hH;obtain⟨z2,its2,n2,r2,hl2,e2⟩:=I.lstM hB;refine PySem.P.add_list e e2 ?_ (by rw[Qm,Qm];omega)
 have ea:its.toArray++its2.toArray=(its++its2).toArray:=by simp
 rw[ea];exact⟨.ref _,_,I.lnew (t':=s.toks) (r.append r2) (by rw[QC];omega),rfl,q _ I.fresh⟩
def Qu2:R2:=λx y H Q=>∃l k xs,x=.ref l/\y=.int k/\H l=some (.lst xs) /\ -(2^63)<=k/\k<2^63/\xs.length*k.toNat<=sizeLine /\
 ∀p,H p=none->Q (.ref p) (upd H p (.lst (QY k.toNat xs).flatten))
theorem Qpm{α:Type}(xs:List α)(k:Nat):(QY k xs).flatten.length=k*xs.length:=by
 induction k with
 |zero=>simp
 |succ k ih=>rw[Jr,Zj,QC,ih,Qis,Nat.add_comm]
theorem Qsg:OpR X (binaryOp .Mult) Qu2:=by
 intro pins s σ H x y v u Q I rx ry h;obtain⟨l,k,xs,rfl,rfl,hH,h1,h2,hz,q⟩:=h;cases rx;obtain⟨t,rfl⟩:=ry;obtain⟨z,its,n,r,hl,e⟩:=I.lstM hH;have hlen:its.toArray.size*k.toNat<=sizeLine:=by rw[Qm,<- hl];exact hz
 have hcap:¬its.toArray.size*k.toNat > (2^63 - 1) / 8:=by
  have:(sizeLine:Nat)<=(2^63 - 1) / 8:=by decide
  omega
 have hfit:¬(!Builtin.List.listFitsIndex k)=true:=by
  rw[fitsIndex_both h1 h2];exact Qj
 have hlong:¬ZX (its.toArray.size*k.toNat)=true:=by
  rw[QgW hlen];exact Qj
 have hnew:Qm7 (λx1 x2=>x1++x2) #[] (QY (if its.toArray.isEmpty=true then 0 else k.toNat) its.toArray)=(QY k.toNat its).flatten.toArray:=by
  have f0:∀m:Nat,Qm7 (λx1 x2=>x1++x2) #[] (QY m its.toArray)=(QY m its).flatten.toArray:=λm=>by
   have:=foldl_rep its m [];rw[QpZ] at this;exact this
  rw[f0];cases its with
  |nil=>simp
  |cons a r'=>rw[if_neg (by simp)]
 refine wpAny_binaryOp_repeat_ref (T := "list") (U := "int") (by decide) ⟨_,e,rfl⟩ (λs'=>QtI s' k t) noFill_list_mul F.fills_int_mul Qt0 repeat_list F.slot_int_index.lookup
  (QkZ Qt0 (QtI s k t) F.entry_int_rmul (F.args_int_rmul_2 _ _) (int___rmul___int_list k t l its.toArray n)
   ⟨e,rfl,⟨_,e,rfl⟩,QkZ F.slot_list_mul ⟨_,e,rfl⟩ F.entry_list_mul (F.args_list_mul_2 _ _) (AutoListH.list___mul___list_int_3 l its.toArray n k t hfit hcap hlong) ⟨e,?_⟩⟩)
 rw[hnew];exact⟨.ref _,_,I.lnew (t':=s.toks) (r.rep k.toNat) (by rw[Qpm,Nat.mul_comm];exact hz),rfl,q _ I.fresh⟩
end
section
variable{prog:QF}{w:Q9}{A:Q6}{E:Value->Shared->Prop}{s:Shared}
end
section
variable{X:Cx}
end
end L2
namespace Att
open PySem.W PySem.Calls
theorem QcQ{P:Params}{h:JU}:∀(ns:List Int)(vs:List Value),WellAll P h vs (ns.map WData.int)->YH vs ns:=by
 intro ns;induction ns with
 |nil=>
  intro vs w;rw[Qif] at w;cases w;exact .nil
 |cons n ns ih=>
  intro vs w;rw[ZB] at w;cases w with
  |cons a b=>
   cases a;exact .cons _ _ (ih _ b)
theorem QiR{l:OpenLaw}{n:Nat}(hn:l.most=some n){P:Params}{h:JU}{args:List WData}{vals:List Value}
  (hpre:l.row.toRowW.claim.pre args=true)(hwl:WellAll P h vals args) :
  ∃a vs ns,vals=[Za a]/\args=[WData.list (ns.map WData.int)]/\h.get? a=some { cls:=.type "list",data:=.seq vs.toArray }/\YH vs ns/\ns.length<=n:=by
 have hsh:WShape.hasAll [] args [.list .int]=true:=(pre_splitW hpre).1;have hc:l.pre.holds [] { args:=args }=true:=(pre_splitW hpre).2;obtain⟨d,r,rfl,h1,h2⟩:=hasAllW_cons hsh;obtain rfl:=hasAllW_nil h2;obtain⟨xs,rfl,h3⟩:=hasW_list h1;obtain⟨ns,rfl⟩:=items_int h3;have hlen:ns.length<=n:=by
  unfold OpenLaw.pre at hc;have h4:(WTm.not (.lt (.lit (.int (n:Int))) (.len (.arg 0)))).holds [] { args:=[.list (ns.map .int)] }=true:=by
   have h4:=(holds_andW hc).1;rw[hn] at h4;exact h4
  have h5:=condW_of h4 (w_not (w_lt w_lit (w_len_list (w_arg rfl))));rw[Qe] at h5;refine Nat.le_of_not_lt λq=>?_
  have q':(n:Int)<((ns.length:Nat):Int):=by omega
  first
   |(rw[decide_eq_true q'] at h5;exact absurd h5 (by decide))
   |(simp at h5;omega)
 cases hwl with
 |cons w1 w2=>
  cases w2;cases w1 with
  |list ho hall=>exact⟨_,_,ns,rfl,rfl,ho,QcQ ns _ hall,hlen⟩
theorem Qjc(l:OpenLaw)(args:List WData):l.row.toRowW.claim.post args (.bool true) args=true:=
 postW_of (r:=l.row.toRowW) (X:=(true == true))
  (show QtK [] (.bool true) .bool=true by first | rfl | decide | simp[QtK,WShape.arms,WShape.armsAll])
  (show(WTm.eq .res (.lit (.bool true))).value [] { args:=args,res:=some (.bool true),after:=args }=some (.bool (true == true)) from w_eq_bool (w_res rfl) w_lit) rfl
theorem Qgn{l:OpenLaw}{n:Nat}{q:QF}{loose:List Str}{XP:(Str->Option Value)->JU->Prop}{YP:Q9->JU->Prop}{d:DefRec}
  (hn:l.most=some n)(hdf:d.params.defaults=[])
  (call:∀(w:Q9)(s₀ s₁:Shared)(mg mb:Str->Option Value)(fa:Addr)(o:Obj)(pm cd doc:Value)(a:Addr)(vs:List Value)(ns:List Int),
   Ground q loose [] XP w s₀ mg mb s₁.heap->YP w s₁.heap ->
   s₁.heap.get? fa=some o->o.data=.func (docDef d.name d.params d.body d.scope pm cd doc)->s₁.heap.CodeRec cd d.name->mg d.name=some (.ref fa) ->
   s₁.heap.get? a=some { cls:=.type "list",data:=.seq vs.toArray }->YH vs ns->ns.length<=n->s₁.gens=#[] ->
   codeAny (model l.prog w) callerA (.call (.ref fa) ⟨[.ref a],[]⟩) (λr s'=>r=.ok (.ret (.bool true))/\OldK s₁.heap s'.heap/\s'.os=s₁.os/\Qdg s'.gens) s₁) :
  WalkO q loose XP YP l.row.toRowW d [] (λf vs=>PySem.call f vs):=by
 intro w s₀ s₁ mg mb G Y fa o pm cd doc dV kV ho hd hcd hD hmg hg args vals as hpre hlay hrd hwl hlo;obtain rfl:dV=.none:=Dflts.none hD hdf;obtain rfl:kV=.none:=Dflts.noKw hD;obtain⟨a,vs,ns,rfl,rfl,hobj,hints,hlen⟩:=QiR hn hpre hwl;refine enter_call (Qch (call w s₀ s₁ mg mb fa o pm cd doc a vs ns G Y ho (fd_plain hd) hcd hmg hobj hints hlen hg) λr s' hq=>?_);obtain⟨rfl,h2,h3,h4⟩:=hq;exact⟨.inl ⟨.bool true,.bool true,[],rfl,λ_=>rfl,.bool true,Qjc l _,λ_=>⟨QtV,λ_ hm=>(nomatch hm)⟩⟩,h2,h3,h4⟩
section
variable{prog:QF}{w:Q9}{A:Q6}{E:Value->Shared->Prop}{s:Shared}{K:Frag}
end
end Att
namespace L2
theorem QeV:∀{vs:List Value}{ns:List Int},YH vs ns->Vals (ns.map V.int) vs
 |_,_,.nil=>.nil
 |_,_,.cons n t h=>.cons ⟨t,rfl⟩ (QeV h)
def Jq(s:ZH):Qd9:=match s with
 |.FunctionDef _ a _ _ _ _ _ _ _ _=>a
 |_=>{ posonlyargs:=[],args:=[],vararg:=none,kwonlyargs:=[],kw_defaults:=[],kwarg:=none,defaults:=[] }
def Ja(s:ZH):List ZH:=match s with
 |.FunctionDef _ _ b _ _ _ _ _ _ _=>b
 |_=>[]
def Qo(s:ZH):Z3:=match s with
 |.FunctionDef _ _ _ _ _ _ sc _ _ _=>sc
 |_=>{ kind:=.function,names:=[],isGenerator:=false,isCoroutine:=false }
abbrev CX0:CXT:=λ_ _ _ _ _ _=>False
abbrev E0:XK:=λ_ _ _=>False
theorem Qsf{X:Cx}:Y0 CX0 X E0:=λ_ _ _ _ _ _ _ h=>h.elim
structure Fun (K:PySem.W.Frag) (x qual:Str) (st:ZH) (f:Addr) (fd:QB):Prop where
 ex:∃(oc:Value)(od:Option Addr)(kV doc pm:Value)(an:Option Addr)(cdv ct:Value)(osl:Array (Option Value)),
  fd=PySem.W.fnOf x qual (Jq st) (Ja st) (Qo st) .none kV doc pm an cdv ct/\K.lookup f=some ⟨oc,od,.func fd,osl⟩/\PySem.W.codeIn K cdv qual=true
 kp:PySem.W.keepIn K (.ref f)=true
section
variable{P:QF}{w:Q9}{K:PySem.W.Frag}{mg:Str->Option Value}{base:JU}
theorem Fun.ok{x qual:Str}{st:ZH}{f:Addr}{fd:QB}{N ps:List Str}{k:Nat}{sp:Sp}(F:Fun K x qual st f fd)(S:Jd N ps (Qo st))(len:∀vs H Q E,sp vs H Q E->vs.length=ps.length)
  (hbody:∀(cdv:Value)(A:Q6)(outer:List Env)(s:Shared)(H:Hp)(vs:List V)(Q:VK)(E:XK),Room k (A.deeper (envOfC qual (Qo st) s.heap.objs.size f cdv))->sp vs H Q E ->
   ∃t,PSs (Qim CX0 P w K mg base N qual (Qo st) f cdv A outer s H E).nox (Ja st) t/\t { nx:=λ_ H'=>Q .non H',rt:=Q } (start N vs) H):FnOk P w K mg base CX0 (k+1) f fd ps sp:=by
 obtain⟨oc,od,kV,doc,pm,an,cdv,ct,osl,rfl,lk,hcd⟩:=F.ex;refine QsR lk hcd S len λA outer s H vs Q E hr hsp=>?_
 obtain⟨t,h,q⟩:=hbody cdv A outer s H vs Q E hr hsp;exact⟨t,h.nox,q⟩
theorem Fun.binds{x qual:Str}{st:ZH}{f:Addr}{fd:QB}{ps:List Str}(F:Fun K x qual st f fd)
  (h:∀(kV doc pm:Value)(an:Option Addr)(cdv ct:Value)(us:List Value),us.length=ps.length->bindArgs (PySem.W.fnOf x qual (Jq st) (Ja st) (Qo st) .none kV doc pm an cdv ct) ⟨us,[]⟩=pure (ps.zip us)):Binds K fd ps []:=by
 obtain⟨oc,od,kV,doc,pm,an,cdv,ct,osl,rfl,lk,hcd⟩:=F.ex;exact .all (h kV doc pm an cdv ct)
theorem J5{x qual:Str}{st:ZH}{f:Addr}{oc:Value}{od an:Option Addr}{osl:Array (Option Value)}{kV doc pm cdv ct:Value}(l:K.lookup f=some ⟨oc,od,.func (PySem.W.fnOf x qual (Jq st) (Ja st) (Qo st) .none kV doc pm an cdv ct),osl⟩)
  (c:PySem.W.codeIn K cdv qual=true)(k:PySem.W.keepIn K (.ref f)=true):Fun K x qual st f (PySem.W.fnOf x qual (Jq st) (Ja st) (Qo st) .none kV doc pm an cdv ct):=⟨⟨oc,od,kV,doc,pm,an,cdv,ct,osl,rfl,l,c⟩,k⟩
end
section
variable{X:Cx}
theorem pv(i:Nat){x:Str}{pos:Pos}(hN:X.N[i]? = some x:=by rfl)(hv:Vis X.env.scope x:=by first | exact QZ rfl | exact QU (QZ rfl) | exact QU (QU rfl))(hd:(x == ("__debug__" : Str))=false:=by decide)
  (hcd:(x == ("__classdict__" : Str))=false:=by decide):PE X (.Name x pos) (QgB i):=Qje hN hv hd hcd
end
theorem QeN{A B:Prop}(h:B):if false=true then A else B:=by
 rw[if_neg Qj];exact h
theorem Qg4{A B:Prop}(h:A):if true=true then A else B:=by
 rw[if_pos rfl];exact h
theorem Qvi{c A B:Prop}[Decidable c](h1:c->A)(h2:¬c->B):if c then A else B:=by
 by_cases h:c
 ·rw[if_pos h];exact h1 h
 ·rw[if_neg h];exact h2 h
theorem QmJ{c A B:Prop}[Decidable c](hc:c)(h:B):if(!decide c)=true then A else B:=by
 rw[decide_eq_true hc];exact QeN h
def Same(H H':Hp):Prop:=∀b o,H b=some o->H' b=some o
theorem Same.refl(H:Hp):Same H H:=λ_ _ h=>h
theorem Same.trans{H H1 H2:Hp}(a:Same H H1)(b:Same H1 H2):Same H H2:=λc o h=>b c o (a c o h)
theorem Same.free{H H':Hp}(e:Same H H'){l:Addr}(h:H' l=Qtl):H l=Qtl:=by
 cases q:H l with
 |none=>rfl
 |some o=>
  rw[e l o q] at h;cases h
theorem Same.seq{K:PySem.W.Frag}{H H':Hp}{a:Addr}{xs:List V}(e:Same H H')(h:SqL K H a xs):SqL K H' a xs:=by
 rcases h with(h | ⟨o,h⟩) | h
 ·exact .inl (.inl (e _ _ h))
 ·exact .inl (.inr ⟨o,e _ _ h⟩)
 ·exact .inr h
end L2
set_option maxHeartbeats 4000000
namespace L2
def blk(X:Cx)(M:List Str)(scope:Z3)(cl:List (Str×Addr))(ex:List Addr)(s3:Shared)(H3:Hp)(C:Addr):Cx where
 prog:=X.prog
 w:=X.w
 K:=X.K
 mg:=X.mg
 base:=X.base
 A:=X.A
 N:=M
 s₀:=s3
 H₀:=H3
 env:=compEnvC scope cl C X.env
 outer:=X.stack
 stack:=X.stack
 ex:=ex
 fn:=λ_=>false
 calm:=X.calm
 pn:=[]
 xe:=λ_ _=>False
def QaX(env:Env):List (Str×Yp)->List (Str×Addr)->List (Str×Addr)
 |[],acc=>acc
 |(n,k)::r,acc=>QaX env r (if k=.free then(n,(env.cells.lookup n).getD 0)::acc else acc)
theorem Qgh{env:Env}:∀(l:List (Str×Yp))(acc:List (Str×Addr)),(∀x∈l,x.2=.free->∃c,env.cells.lookup x.1=some c) ->
  (forIn (m:=Sem) l acc λx cs=>(if(x.2 == Q2)=true then do let a <- cellOf env x.1;pure (Zc ((x.1,a)::cs)) else pure (Zc cs)))=pure (QaX env l acc)
 |[],acc,_=>rfl
 |(n,k)::r,acc,h=>by
  rw[QeK];by_cases hk:k=.free
  ·subst hk;obtain⟨c,hc⟩:=h (n,.free) JM rfl;have e1:cellOf env n=pure c:=by unfold cellOf;rw[hc]
   have e2:QaX env ((n,.free)::r) acc=QaX env r ((n,c)::acc):=by
    show QaX env r (if Q2=.free then(n,(env.cells.lookup n).getD 0)::acc else acc)=_;rw[if_pos rfl,hc];rfl
   rw[e2];show((if(Q2 == Q2)=true then do let a <- cellOf env n;pure (Zc ((n,a)::acc)) else pure (Zc acc)) >>= _)=_;rw[if_pos (show(Q2 == Q2)=true by decide),e1];exact Qgh r _ λx hx=>h x (Jj _ hx)
  ·have hb:(k == Q2)=false:=by simpa using hk
   have e2:QaX env ((n,k)::r) acc=QaX env r acc:=by
    show QaX env r (if k=.free then(n,(env.cells.lookup n).getD 0)::acc else acc)=_;rw[if_neg hk]
   rw[e2];show((if(k == Q2)=true then _ else pure (Zc acc)) >>= _)=_;rw[hb,if_neg Qj];exact Qgh r _ λx hx=>h x (Jj _ hx)
theorem Qgi{scope:Z3}{env:Env}(h:∀x∈scope.names,x.2=.free->∃c,env.cells.lookup x.1=some c):closureFor scope env=pure (QaX env scope.names []):=by
 have e:=Qgh (env:=env) scope.names [] h;unfold closureFor;show(forIn scope.names [] _ >>= _)=_;have e':(forIn (m:=Sem) scope.names ([]:List (Str×Addr)) λx cs=>match x with | (name,kind)=>(if(kind == Q2)=true then do let a <- cellOf env name;pure (Zc ((name,a)::cs)) else pure (Zc cs)))=pure (QaX env scope.names []):=e
 first
  |(rw[e'];rfl)
  |(refine Eq.trans (congrArg (λt=>t >>= _) e') ?_;rfl)
theorem Qgj{env:Env}:∀(l:List (Str×Yp))(acc:List (Str×Addr)),(∀x∈l,x.2=.free->∃c,env.cells.lookup x.1=some c)->(∀x c,acc.lookup x=some c->env.cells.lookup x=some c) ->
  (∀x c,(QaX env l acc).lookup x=some c->env.cells.lookup x=some c)/\(∀x c,acc.lookup x=some c->(QaX env l acc).lookup x=some c)/\∀x,(x,Q2)∈l->∃c,(QaX env l acc).lookup x=some c
 |[],acc,_,ha=>⟨ha,λ_ _ h=>h,λ_ h=>nomatch h⟩
 |(n,k)::r,acc,h,ha=>by
  have hr:∀x∈r,x.2=.free->∃c,env.cells.lookup x.1=some c:=λx hx=>h x (Jj _ hx)
  by_cases hk:k=.free
  ·subst hk;obtain⟨c,hc⟩:=h (n,.free) JM rfl;have e2:QaX env ((n,.free)::r) acc=QaX env r ((n,c)::acc):=by
    show QaX env r (if Q2=.free then(n,(env.cells.lookup n).getD 0)::acc else acc)=_;rw[if_pos rfl,hc];rfl
   rw[e2];have ha':∀x c',((n,c)::acc).lookup x=some c'->env.cells.lookup x=some c':=λx c' q=>by
    rw[QQ] at q;cases hx:x == n with
    |true=>
     rw[hx] at q;have z:c=c':=Qq q;have y:x=n:=by simpa using hx
     rw[y,<- z];exact hc
    |false=>rw[hx] at q;exact ha x c' q
   obtain⟨i1,i2,i3⟩:=Qgj r ((n,c)::acc) hr ha';refine⟨i1,λx c' q=>?_,λx hx=>?_⟩
   ·refine i2 x c' ?_
    rw[QQ];cases hx:x == n with
    |true=>
     have y:x=n:=by simpa using hx
     have:=ha x c' q;rw[y,hc] at this;exact this
    |false=>exact q
   ·rcases Qy.mp hx with z | z
    ·cases z;exact⟨c,i2 n c (by rw[QQ,beq_self_eq_true])⟩
    ·exact i3 x z
  ·have e2:QaX env ((n,k)::r) acc=QaX env r acc:=by
    show QaX env r (if k=.free then(n,(env.cells.lookup n).getD 0)::acc else acc)=_;rw[if_neg hk]
   rw[e2];obtain⟨i1,i2,i3⟩:=Qgj r acc hr ha;refine⟨i1,i2,λx hx=>?_⟩;rcases Qy.mp hx with z | z
   ·cases z;exact absurd rfl hk
   ·exact i3 x z
theorem QaV{l:List (Str×Yp)}{x:Str}{k:Yp}(h:l.lookup x=some k):(x,k)∈l:=by
 induction l with
 |nil=>cases h
 |cons p r ih=>
  obtain⟨n,q⟩:=p;rw[QQ] at h;cases hx:x == n with
  |true=>
   rw[hx] at h;have y:x=n:=by simpa using hx
   have z:q=k:=Qq h;subst y z;exact JM
  |false=>rw[hx] at h;exact Jj _ (ih h)
theorem Y2{env:Env}:∀{names:List (Str×Yp)}{x:Str}{k:Yp},(names.map λ(n,k)=>if(k == Q2&&env.scope.kind == .function&&env.kindOf n == some .cell) then(n,ZQ) else(n,k)).lookup x=some k ->
  names.lookup x=some k∨(k=.cell/\names.lookup x=some .free)
 |[],x,k,h=>by cases h
 |(n,q)::r,x,k,h=>by
  have ih:=@Y2 env r x k;rw[ZB] at h;have h':QeJ x ((if(q == Q2&&env.scope.kind == .function&&env.kindOf n == some .cell)=true then(n,ZQ) else(n,q))::_)=some k:=h;cases hx:x == n with
  |true=>
   by_cases hc:(q == Q2&&env.scope.kind == .function&&env.kindOf n == some .cell)=true
   ·rw[if_pos hc,QQ,hx] at h';have z:ZQ=k:=Qq h';have y:q=.free:=by simp at hc;exact hc.1.1
    refine .inr ⟨z.symm,?_⟩;rw[QQ,hx,y]
   ·rw[if_neg hc,QQ,hx] at h';refine .inl ?_
    rw[QQ,hx];exact h'
  |false=>
   have h2:QeJ x (r.map λ(n,k)=>if(k == Q2&&env.scope.kind == .function&&env.kindOf n == some .cell) then(n,ZQ) else(n,k))=some k:=by
    by_cases hc:(q == Q2&&env.scope.kind == .function&&env.kindOf n == some .cell)=true
    ·rw[if_pos hc,QQ,hx] at h';exact h'
    ·rw[if_neg hc,QQ,hx] at h';exact h'
   rw[QQ,hx];exact ih h2
theorem relabel_free{env:Env}:∀{names:List (Str×Yp)}{x:Str},names.lookup x=some .free->(names.map λ(n,k)=>if(k == Q2&&env.scope.kind == .function&&env.kindOf n == some .cell) then(n,ZQ) else(n,k)).lookup x=some .cell ∨
   (names.map λ(n,k)=>if(k == Q2&&env.scope.kind == .function&&env.kindOf n == some .cell) then(n,ZQ) else(n,k)).lookup x=some .free
 |[],x,h=>by cases h
 |(n,q)::r,x,h=>by
  have ih:=@relabel_free env r x;rw[ZB];show QeJ x ((if(q == Q2&&env.scope.kind == .function&&env.kindOf n == some .cell)=true then(n,ZQ) else(n,q))::_)=some .cell∨QeJ x ((if(q == Q2&&env.scope.kind == .function&&env.kindOf n == some .cell)=true then(n,ZQ) else(n,q))::_)=some .free;cases hx:x == n with
  |true=>
   rw[QQ,hx] at h;have z:q=Q2:=Qq h;subst z;by_cases hc:(Q2 == Q2&&env.scope.kind == .function&&env.kindOf n == some .cell)=true
   ·rw[if_pos hc,QQ,hx];exact .inl rfl
   ·rw[if_neg hc,QQ,hx];exact .inr rfl
  |false=>
   rw[QQ,hx] at h;by_cases hc:(q == Q2&&env.scope.kind == .function&&env.kindOf n == some .cell)=true
   ·rw[if_pos hc,QQ,hx];exact ih h
   ·rw[if_neg hc,QQ,hx];exact ih h
def Qdk(N:List Str)(sc:Z3)(M:List Str)(scope:Z3)(cap:List (Option Nat)):Bool:=
 cap.length == M.length&&(M.zip cap).all (λ(x,o)=>match o with
  |none=>scope.names.lookup x == some .local
  |some j=>N[j]? == some x&&(scope.names.lookup x == some .free&&(sc.names.lookup x == some .cell||sc.names.lookup x == some .free))) &&
 (scope.kind == .function&&scope.names.all λy=>y.2 != .cell&&((y.2 != .free||(sc.names.lookup y.1 == some .cell||sc.names.lookup y.1 == some .free))&&(y.2 != .local||scope.names.lookup y.1 == some .local)))
def Qb7(cap:List (Option Nat))(σ:St):St:=cap.map λo=>match o with
 |none=>none
 |some j=>(σ[j]?).getD none
structure CapOk (N:List Str) (sc:Z3) (M:List Str) (scope:Z3) (cap:List (Option Nat)):Prop where
 len:cap.length=M.length
 own:∀(i j:Nat)(x:Str),M[i]? = some x->cap[i]? = some (some j)->N[j]? = some x/\scope.names.lookup x=some .free/\(sc.names.lookup x=some .cell∨sc.names.lookup x=some .free)
 kind:scope.kind=.function
 cell:∀y∈scope.names,y.2≠.cell
 free:∀y∈scope.names,y.2=.free->sc.names.lookup y.1=some .cell∨sc.names.lookup y.1=some .free
 loc:∀y∈scope.names,y.2=.local->scope.names.lookup y.1=some .local
theorem CapOk.of{N:List Str}{sc:Z3}{M:List Str}{scope:Z3}{cap:List (Option Nat)}(h:Qdk N sc M scope cap=true):CapOk N sc M scope cap:=by
 unfold Qdk at h;simp only[Jk,Q7,beq_iff_eq] at h;obtain⟨⟨h1,h2⟩,h3,h4⟩:=h;refine⟨h1,λi j x e1 e2=>?_,h3,λy hy z=>?_,λy hy z=>?_,λy hy z=>?_⟩
 ·have hm:(x,some j)∈M.zip cap:=by
   have:(M.zip cap)[i]? = some (x,some j):=by rw[List.getElem?_zip_eq_some];exact⟨e1,e2⟩
   exact Qt this
  have:=h2 _ hm;simp only[Jk,beq_iff_eq,Qp1] at this;exact this
 ·have:=(h4 y hy).1;simp[z] at this
 ·have:=(h4 y hy).2.1
  simpa [z] using this
 ·have:=(h4 y hy).2.2
  simpa [z] using this
section
variable{X:Cx}{pins:List (Addr×Obj)}{σ:St}{H H3:Hp}{s3:Shared}{M:List Str}{scope:Z3}{cap:List (Option Nat)}{fp:List Addr}{h4:JU}{t4:Nat}
theorem Cx.Ok.cells(ok:X.Ok){N:List Str}(c:CapOk N X.env.scope M scope cap):∀y∈scope.names,y.2=.free->∃d,X.env.cells.lookup y.1=some d:=λy hy z=>ok.has y.1 (c.free y hy z)
theorem Qc7(I:Inv X pins σ H3 s3)(c:CapOk X.N X.env.scope M scope cap)(hf:∀b∈fp,FpOk X pins H3 b)(hb:∀b∈fp,b<s3.heap.objs.size)
  (hn:h4.Ns s3.heap.objs.size λ_=>none)(hk:∀b o,s3.heap.get? b=some o->h4.get? b=some o) :
  Inv (blk X M scope (QaX X.env scope.names []) fp s3 H3 s3.heap.objs.size) [] (Qb7 cap σ) H3 { s3 with heap:=h4,toks:=t4 }:=by
 obtain⟨c1,c2,c3⟩:=Qgj scope.names [] (I.ok.cells c) (λx d q=>by cases q);refine⟨⟨I.ok.mod,c.kind,I.ok.glob,I.ok.blt,Qk _,λx y d e1 e2=>I.ok.inj x y d (c1 x d e1) (c1 y d e2),λx hx=>?_,(λx d z=>nomatch z),I.ok.hd,I.ok.frames,.inl rfl,λb hb'=>?_,I.bs,
  QV I.ok.bsz I.sz,λb o e z=>?_,λb hb' z=>?_,I.stack,I.stkFree⟩,rfl,I.bare,Un.kept hk,⟨_,hn,λi x v e1 e2 e3=>?_⟩,λx d e=>?_,I.hok.fresh (Qk _),λx d e=>I.freeC x d (c1 x d e),λp hp=>(nomatch hp),I.hok.kept hk,?_⟩
 ·have hx':(relabel scope X.env).names.lookup x=some .cell∨(relabel scope X.env).names.lookup x=some .free:=hx;rcases hx' with q | q
  ·rcases Y2 q with z | ⟨_,z⟩
   ·exact absurd rfl (c.cell _ (QaV z))
   ·exact c3 x (QaV z)
  ·rcases Y2 q with z | ⟨z,_⟩
   ·exact c3 x (QaV z)
   ·cases z
 ·obtain⟨f0,f1,f2,f3,f4,f5⟩:=hf b hb';exact⟨Qu (hb b hb'),λx d e=>f4 x d (c1 x d e)⟩
 ·obtain⟨f0,f1,f2,f3,f4,f5⟩:=hf b z;rcases f3 with q | q
  ·exact I.ok.noex b o e q
  ·exact absurd (QH (Qi e) (QV I.ok.bsz q)) (Z4 _)
 ·obtain⟨f0,f1,f2,f3,f4,f5⟩:=hf b hb';rcases Qy.mp (I.stkSub b z) with q | q
  ·exact f1 q
  ·exact f2 q
 ·have e2':(cap.map λo=>match o with | none=>none | some j=>(σ[j]?).getD none)[i]? = some (some v):=e2;rw[Qv] at e2';cases q:cap[i]? with
  |none=>rw[q] at e2';cases e2'
  |some o=>
   rw[q] at e2';cases o with
   |none=>cases e2'
   |some j=>
    have e4:(σ[j]?).getD none=some v:=Qq e2';have e5:σ[j]? = some (some v):=by
     cases r:σ[j]? with
     |none=>rw[r] at e4;cases e4
     |some o=>rw[r] at e4;exact congrArg some e4
    obtain⟨n1,n2,n3⟩:=c.own i j x e1 q;obtain⟨m,hm,hl⟩:=I.loc;obtain⟨u,ru,lk⟩:=hl j x v n1 e5 (n3.elim (λz=>.inr (.inl z)) λz=>.inr (.inr z));refine⟨u,ru,.inr ?_⟩;rcases lk with⟨k1,_⟩ | ⟨_,d,k2,k3⟩
    ·have k1':X.env.scope.names.lookup x=some .local:=k1;rcases n3 with z | z<;>(rw[z] at k1';cases k1')
    ·obtain⟨d',hd'⟩:=c3 x (QaV n2);have ed:d'=d:=by
      have:=c1 x d' hd';rw[k2] at this;exact(Qq this).symm
     subst ed;exact⟨(relabel_free n2:(relabel scope X.env).names.lookup x=some .cell∨(relabel scope X.env).names.lookup x=some .free),d',hd',k3.keeps hk⟩
 ·obtain⟨v,q⟩:=I.cell x d (c1 x d e);exact⟨v,q.keeps hk⟩
 ·show(cap.map _).length=M.length;rw[Qe];exact c.len
theorem QkR{σ':St}{s':Shared}{h':JU}(I:Inv X pins σ H3 s3)(hf:∀b∈fp,FpOk X pins H3 b)(J:Inv (blk X M scope (QaX X.env scope.names []) fp s3 H3 s3.heap.objs.size) [] σ' H s')(hs:Qbi s3.heap.objs.size s'.heap h') :
  Inv X pins σ H { s' with heap:=h' }:=by
 have u:Un (frs X.stack) fp H3 H s3.heap s'.heap:=J.base;have ne:∀b o,s3.heap.get? b=some o->b≠s3.heap.objs.size:=λb o e=>Qu (Qi e)
 have hC:H s3.heap.objs.size=none:=J.free;refine I.call' (ch:=fp) (s':={ s' with heap:=h' }) J.os ⟨λb o e n hb hx=>(hs.2 b (ne b o e)).trans (u.keep b o e n hb hx),λb o e n hb hx=>?_,u.free,λb o e hx=>?_,u.tups,u.frzs,u.tbls⟩ (λb o e=>?_) J.bare λb hb=>?_
 ·obtain⟨sl,q⟩:=u.slot b o e n hb hx;exact⟨sl,(hs.2 b (ne b o e)).trans q⟩
 ·obtain⟨o',q⟩:=u.there b o e hx;exact⟨o',(hs.2 b (ne b o e)).trans q⟩
 ·refine(J.hok b o e).stay (λc v hc q=>(hs.2 c ?_).trans q) (λ_ q=>q) λ_ _ q=>q
  rintro rfl;rcases hc with z | z
  ·rw[<- z,hC] at e;cases e
  ·rw[hC] at z;cases z
 ·obtain⟨f0,f1,f2,f3,f4,f5⟩:=hf b hb;exact⟨f3,f1,f4,f5⟩
end
def Wk:St->St->Prop
 |[],[]=>True
 |none::a,_::b=>Wk a b
 |some v::a,some u::b=>v=u/\Wk a b
 |_,_=>False
theorem Wk.len:∀{a b:St},Wk a b->a.length=b.length
 |[],[],_=>rfl
 |none::a,_::b,h=>congrArg (·+1) (Wk.len (a:=a) (b:=b) h)
 |some v::a,some u::b,h=>congrArg (·+1) (Wk.len (a:=a) (b:=b) h.2)
 |[],_::_,h=>h.elim
 |some _::_,[],h=>h.elim
 |none::_,[],h=>h.elim
 |some _::_,none::_,h=>h.elim
theorem Wk.get:∀{a b:St},Wk a b->∀(i:Nat) v,a[i]? = some (some v)->b[i]? = some (some v)
 |[],[],_,i,v,h=>by simp at h
 |none::a,x::b,h,0,v,e=>by simp at e
 |none::a,x::b,h,i+1,v,e=>by
  simp only[Qgy] at e ⊢;exact Wk.get (a:=a) (b:=b) h i v e
 |some q::a,some u::b,h,0,v,e=>by
  simp only[Qgx] at e ⊢;rw[<- h.1];exact e
 |some q::a,some u::b,h,i+1,v,e=>by
  simp only[Qgy] at e ⊢;exact Wk.get (a:=a) (b:=b) h.2 i v e
 |[],_::_,h,_,_,_=>h.elim
 |some _::_,[],h,_,_,_=>h.elim
 |none::_,[],h,_,_,_=>h.elim
 |some _::_,none::_,h,_,_,_=>h.elim
theorem Inv.wk{X:Cx}{pins:List (Addr×Obj)}{σ σ':St}{H:Hp}{s:Shared}(I:Inv X pins σ H s)(h:Wk σ' σ):Inv X pins σ' H s:=I.weak h.len h.get
def QhD(J:It)(body:V->Hp->(Hp->Prop)->Prop)(Qn:Hp->Prop)(H:Hp):Prop:=
 ∃W:Nat->Nat->Hp->Prop,(∃m,W 0 m H)/\∀i m H2,W i m H2->(J.stop i H2/\Qn H2)∨(J.go i H2/\∀x H3,J.yld i H2 x H3->body x H3 λH6=>∃m',m'<m/\W (i+1) m' H6)
abbrev Act:=(Shared->Prop)->Shared->Prop
def BodyOk(Y:Cx)(σ:St)(act:Act)(b:Hp->(Hp->Prop)->Prop):Prop:=
 ∀(pins:List (Addr×Obj))(s:Shared)(H:Hp)(k:Hp->Prop)(Q:Shared->Prop),Inv Y pins σ H s->b H k->(∀s' H',Inv Y pins σ H' s'->k H'->Q s')->act Q s
theorem Qbx{Y:Cx}{σ:St}{tg:QM}{elt:QM}{gens:List Qd5}{scope:Z3}{cpos:Pos}{d:Nat}{it D:Addr}{fp:List Addr}{tn:Nat->JU->Prop}{J:It}{pins:List (Addr×Obj)}{s:Shared}{H:Hp}{body:V->Hp->(Hp->Prop)->Prop}{Qn:Hp->Prop}{R:Qk0->Shared->Prop}{act:Value->Act}
  (hc:Y.calm=true)(T:Turn Y.prog Y.w Y.K tg J fp it tn)(st:tn 0 s.heap)(hf:∀b∈fp,FpOk Y pins H b)
  (hturn:∀(Q:PySem.Fin->Shared->Prop)(E:Value->Shared->Prop)(s:Shared),wpAny (model Y.prog Y.w) Y.A (pyNext (.ref it)) (λr s1=>match r with
   |none=>Q (.done .next) s1
   |some v=>wpAny (model Y.prog Y.w) Y.A (letOwnedTupleGo tg (.ref it) v) (λ_ s2=>act v (λs3=>Q (.again (.compLoop (.ListComp elt gens scope cpos) d (.ref it) (.ref D) Y.env)) s3) s2) E s1) E s ->
   wpAny (model Y.prog Y.w) Y.A (compTurn (.ListComp elt gens scope cpos) d (.ref it) (.ref D) Y.env) Q E s)
  (hact:∀(x:V)(u:Value),RelV x u->BodyOk Y σ (act u) (body x))
  (I:Inv Y pins σ H s)(h:QhD J body Qn H)(hR:∀s' H',Inv Y pins σ H' s'->Qn H'->R (.ok .next) s') :
  codeAny (model Y.prog Y.w) Y.A (.compLoop (.ListComp elt gens scope cpos) d (.ref it) (.ref D) Y.env) R s:=by
 obtain⟨W,⟨m0,w0⟩,turn⟩:=h;have stat:∀{H':Hp},(∀b∈fp,H' b=none)->∀b∈fp,FpOk Y pins H' b:=λhn b hb=>⟨hn b hb,(hf b hb).2⟩
 refine codeAny_loop rfl (λn s'=>∃i H',Inv Y pins σ H' s'/\tn i s'.heap/\(∀b∈fp,H' b=none)/\W i n H') (λn s3 hI=>?_) m0 ⟨0,H,I,st,λb hb=>(hf b hb).1,w0⟩;show wpAny _ Y.A ((compTurn (.ListComp elt gens scope cpos) d (.ref it) (.ref D) Y.env).onRaise (λx=>do noteFrame x Y.env;theTreesLotGoes x)) _ _ s3;refine wpAny_noted (hturn _ _ _ ?_);obtain⟨i,H3,I3,st3,fr3,w3⟩:=hI;rcases turn i n H3 w3 with⟨stop,qn⟩ | ⟨go,step⟩
 ·refine thn (T.done Y rfl rfl rfl hc i pins s3 σ H3 _ I3 (stat fr3) st3 stop) λr s4 ⟨hr,I4⟩=>?_
  subst hr;exact hR s4 H3 I4 qn
 ·refine thn (T.item Y rfl rfl rfl hc i pins s3 σ H3 _ I3 (stat fr3) st3 go) λr s4 ⟨u,hr,h4⟩=>?_
  subst hr;refine thn h4 λ_ s5 ⟨x,H5,I5,r5,y5,st5,fr5⟩=>?_
  have I5':=I5.pinned (stat fr5) (T.obj _ _ st5);refine hact x u r5 _ s5 H5 _ _ I5' (step x H5 y5) λs7 H7 I7 ⟨m',hm,w7⟩=>?_
  refine⟨rfl,m',hm,i+1,H7,I7.unpinned,T.keep _ _ _ st5 λb hb o e=>(I7.pin (b,o) (QJ _ (QJ _ (Yb hb e)))).1,λb hb=>?_,w7⟩;obtain⟨o,e,dd⟩:=T.obj _ _ st5 b hb;exact(I7.pin (b,o) (QJ _ (QJ _ (Yb hb e)))).2.1
abbrev QiF (ifs:List QM) (env:Env):Sem Bool:=forIn ifs true λc r=>if r=true then do let ok <- isTrue c env (eval c env);pure (Zc ok) else pure (Zc r)
def PTs(Y:Cx)(ifs:List QM)(t:TT):Prop:=
 ∀(pins:List (Addr×Obj))(s:Shared)(σ:St)(H:Hp)(Q:Bool->Hp->Prop),Inv Y pins σ H s->t σ H Q->wpAny (model Y.prog Y.w) Y.A (QiF ifs Y.env) (TP Y pins σ Q) Y.xe s
def QfN:TT:=λ_ H Q=>Q true H
theorem Qja{Y:Cx}:PTs Y [] QfN:=λpins s σ H Q I h=>wpAny_tests_nil ⟨H,I,h⟩
theorem Qor{Y:Cx}{c:QM}{t:TT}(h:PT Y c t):PTs Y [c] t:=λpins s σ H Q I q=>wpAny_tests_one (h pins s σ H Q I q)
def QmW(Y:Cx)(tg:QM)(ifs:List QM)(inner:Act):Value->Act:=λu Q s=>
 wpAny (model Y.prog Y.w) Y.A (assign tg Y.env u) (λ_ s4=>wpAny (model Y.prog Y.w) Y.A (QiF ifs Y.env) (λok s5=>if ok=true then inner Q s5 else Q s5) (λ_ _=>False) s4) (λ_ _=>False) s
def bOf(σ:St)(g:TG)(tc:TT)(inner:St->Hp->(Hp->Prop)->Prop):V->Hp->(Hp->Prop)->Prop:=λx H k=>g x σ H λσ4 H4=>Wk σ σ4/\tc σ4 H4 λb H5=>
 if b=true then inner σ4 H5 k else k H5
theorem QeE{Y:Cx}{σ:St}{tg:QM}{ifs:List QM}{g:TG}{tc:TT}{inner:Act}{ri:St->Hp->(Hp->Prop)->Prop}(hx:Y.xe=λ_ _=>False)(hg:PG Y tg g)(ht:PTs Y ifs tc)(he:∀σ4,BodyOk Y σ4 inner (ri σ4))(x:V)(u:Value)(r:RelV x u) :
  BodyOk Y σ (QmW Y tg ifs inner u) (bOf σ g tc ri x):=by
 intro pins s H k Q I h hQ;have hx':∀(v:Value)(s':Shared),Y.xe v s'->False:=λv s' z=>by rw[hx] at z;exact z
 refine wpAny_mono (hg pins s σ H x u _ I r h) (λ_ s4 ⟨σ4,H4,I4,wk,q4⟩=>?_) hx';refine wpAny_mono (ht pins s4 σ4 H4 _ I4 q4) (λb s5 ⟨H5,I5,q5⟩=>?_) hx';cases b with
 |false=>
  rw[if_neg Qj] at q5;rw[if_neg Qj];exact hQ s5 H5 (I5.wk wk) q5
 |true=>
  rw[if_pos rfl] at q5;rw[if_pos rfl];exact he σ4 pins s5 H5 k Q I5 q5 λs' H' I' k'=>hQ s' H' (I'.wk wk) k'
def QkX(Y:Cx)(elt:QM)(D:Addr):Act:=λQ s=>wpAny (model Y.prog Y.w) Y.A (eval elt Y.env) (λv s6=>wpAny (model Y.prog Y.w) Y.A (call (.builtin "list.append") [.ref D,v]) (λ_ s7=>Q s7) (λ_ _=>False) s6) (λ_ _=>False) s
def Qp7(p:Addr)(te:TE):St->Hp->(Hp->Prop)->Prop:=λσ H k=>te σ H λv H6=>∃ys,H6 p=some (.lst ys)/\ys.length<sizeLine/\k (upd H6 p (.lst (ys++[v])))
theorem QeF{Y:Cx}{σ:St}{elt:QM}{te:TE}{D:Addr}(hx:Y.xe=λ_ _=>False)(he:PE Y elt te):BodyOk Y σ (QkX Y elt D) (Qp7 D te σ):=by
 intro pins s H k Q I h hQ;have hx':∀(v:Value)(s':Shared),Y.xe v s'->False:=λv s' z=>by rw[hx] at z;exact z
 refine wpAny_mono (he pins s σ H _ I h) (λv s6 ⟨y,H6,I6,r6,ys,e,hz,q⟩=>?_) hx';exact wpAny_mono (Qff (X:=Y) pins s6 σ H6 (.ref D) [y] (.ref D) [v] (λ_ H'=>k H') I6 rfl (.cons r6 .nil) ⟨D,ys,y,rfl,rfl,e,hz,q⟩) (λ_ s7 ⟨_,H7,I7,_,q7⟩=>hQ s7 H7 I7 q7) hx'
theorem Qgz{Y:Cx}{elt tg iter:QM}{ifs:List QM}{scope:Z3}{cpos:Pos}{it D:Addr}(Q:PySem.Fin->Shared->Prop)(E:Value->Shared->Prop)(s:Shared)
  (h:wpAny (model Y.prog Y.w) Y.A (pyNext (.ref it)) (λr s1=>match r with
   |none=>Q (.done .next) s1
   |some v=>wpAny (model Y.prog Y.w) Y.A (letOwnedTupleGo tg (.ref it) v) (λ_ s2=>QmW Y tg ifs (QkX Y elt D) v (λs3=>Q (.again (.compLoop (.ListComp elt [⟨tg,iter,ifs,0⟩] scope cpos) 0 (.ref it) (.ref D) Y.env)) s3) s2) E s1) E s) :
  wpAny (model Y.prog Y.w) Y.A (compTurn (.ListComp elt [⟨tg,iter,ifs,0⟩] scope cpos) 0 (.ref it) (.ref D) Y.env) Q E s:=by
 rw[compTurn_list];refine wpAny_bind (wpAny_standAt (wpAny_bind (thn h λr s1 h1=>?_)));cases r with
 |none=>exact Qh h1
 |some v=>
  refine wpAny_bind (thn h1 λ_ s2 h2=>?_);refine wpAny_bind (wpAny_mono h2 (λ_ s4 h4=>wpAny_bind (wpAny_mono h4 (λok s5 h5=>?_) λ_ _ f=>f.elim)) λ_ _ f=>f.elim);cases ok with
  |false=>exact Qh h5
  |true=>exact wpAny_bind (wpAny_bind (wpAny_mono h5 (λx s6 h6=>wpAny_bind (wpAny_mono h6 (λ_ s7 h7=>Qh (Qh h7)) λ_ _ f=>f.elim)) λ_ _ f=>f.elim))
def tComp(cap:List (Option Nat))(wi:TI)(g:TG)(tc:TT)(te:TE):TE:=λσ H Q=>wi σ H λJ H1=>∀p,H1 p=none->QhD J (bOf (Qb7 cap σ) g tc (Qp7 p te)) (Q (.ref p)) (upd H1 p (.lst []))
theorem FpOk.upd{X:Cx}{pins:List (Addr×Obj)}{H:Hp}{b a:Addr}{o:HO}(h:FpOk X pins H b)(hne:b≠a):FpOk X pins (upd H a o) b:=⟨by rw[Q5 hne];exact h.1,h.2⟩
theorem QgQ{X:Cx}{M:List Str}{cap:List (Option Nat)}{elt tg iter:QM}{ifs:List QM}{scope:Z3}{pos:Pos}{wi:TI}{g:TG}{tc:TT}{te:TE}(hc:X.calm=true)(ok:Qdk X.N X.env.scope M scope cap=true)
  (hi:PI X tg iter wi)(hb:∀cl ex s3 H3 C,PG (blk X M scope cl ex s3 H3 C) tg g/\PTs (blk X M scope cl ex s3 H3 C) ifs tc/\PE (blk X M scope cl ex s3 H3 C) elt te)
  (hs:∀x,foldedSetIterable iter X.env x=pure x:=by intro _;rfl):PE X (.ListComp elt [⟨tg,iter,ifs,0⟩] scope pos) (tComp cap wi g tc te):=by
 intro pins s σ H Q I h;have c:=CapOk.of ok;rw[eval_ListComp];refine Qa8 (use:=none) rfl hs (Qgi (I.ok.cells c)) c.kind c.loc ?_
 refine thn (hi pins s σ H _ I h) λv s1 h1=>thn h1 λitv s2 h2=>?_
 obtain⟨it,fp,tn,J,H2,e,I2,T,st2,f2,hW⟩:=h2;subst e;refine JB (Y9 c.cell (by intro y hy;simp at hy) (λh₁ hns₁ hsb₁=>?_) c.kind);have I3:Inv X pins σ (upd H2 s2.heap.objs.size (.lst [])) { s2 with heap:=s2.heap.push { cls:=.type "list",data:=.seq ([]:List Value).toArray } }:=I2.lnew (t':=s2.toks) (ys:=[]) .nil (Jn _);have lt2:∀b∈fp,b<s2.heap.objs.size:=λb hb=>by obtain⟨o,e,_⟩:=T.obj _ _ st2 b hb;exact Qi e
 have f3:∀b∈fp,FpOk X pins (upd H2 s2.heap.objs.size (.lst [])) b:=λb hb=>(f2 b hb).upd (Qu (lt2 b hb))
 generalize hs3:({ s2 with heap:=s2.heap.push { cls:=.type "list",data:=.seq ([]:List Value).toArray } }:Shared)=s3 at I3;have e3:s3.heap=s2.heap.push { cls:=.type "list",data:=.seq ([]:List Value).toArray }:=by rw[<- hs3]
 have z3:s3.heap.objs.size=s2.heap.objs.size+1:=by rw[e3,Zh]
 have hk:∀b o,s3.heap.get? b=some o->h₁.get? b=some o:=λb o e=>hsb₁.extBut b o (by
  have:=Qi e;rw[e3] at this;exact Qu this) (Qd _ (e3 ▸ e))
 have hn₁:h₁.Ns s3.heap.objs.size λ_=>none:=by rw[e3];exact hns₁
 have B:=Qc7 (t4:=s3.toks+([]:List (Str×Value)).length) (fp:=fp) I3 c f3 (λb hb=>by rw[z3];exact QaD (lt2 b hb)) hn₁ hk;have st4:tn 0 h₁:=T.keep _ _ _ st2 λb hb o e=>hk b o (by rw[e3];exact Qd _ e)
 have fp4:∀b∈fp,FpOk (blk X M scope (QaX X.env scope.names []) fp s3 (upd H2 s2.heap.objs.size (.lst [])) s3.heap.objs.size) [] (upd H2 s2.heap.objs.size (.lst [])) b:=λb hb=>by
  refine⟨(f3 b hb).1,(B.ok.exf b hb).1,B.ok.exfs b hb,.inl hb,(B.ok.exf b hb).2,λp hp=>(nomatch hp)⟩
 obtain⟨hg,ht,he⟩:=hb (QaX X.env scope.names []) fp s3 (upd H2 s2.heap.objs.size (.lst [])) s3.heap.objs.size;have loop:codeAny (model X.prog X.w) X.A (.compLoop (.ListComp elt [⟨tg,iter,ifs,0⟩] scope pos) 0 (.ref it) (.ref s2.heap.objs.size) (compEnvC scope (QaX X.env scope.names []) s3.heap.objs.size X.env))
   (compPost (model X.prog X.w) X.A X.xe none (EP X pins σ Q) (.ref s2.heap.objs.size) s3.heap.objs.size) { s3 with heap:=h₁,toks:=s3.toks+([]:List (Str×Value)).length }:=by
  refine Qbx (Y:=blk X M scope (QaX X.env scope.names []) fp s3 (upd H2 s2.heap.objs.size (.lst [])) s3.heap.objs.size) (gens:=[⟨tg,iter,ifs,0⟩]) (d:=0) hc T st4 fp4
   (λQ E s h=>Qgz Q E s h) (λx u r=>QeE rfl hg ht (λσ4=>QeF rfl he) x u r) B (hW _ (I2.hok.fresh (Qk _))) λs' H' I' q=>?_
  obtain⟨m,hn,_⟩:=I'.loc;exact⟨m,hn,λh' hs'=>⟨.ref s2.heap.objs.size,H',QkR I3 f3 I' hs',rfl,q⟩⟩
 exact QbG loop (T.self _ 0 _ _ _ st4 loop)
section
variable{X:Cx}
theorem JZ:CallR X (.builtin "isinstance") (λxs H Q=>∃x t T b,xs=[x,.ty T]/\TyOf X.K H x t/\PySem.W.kitOne X.K t (.type T)=some b/\Q (.bl b) H):=by
 intro pins s σ H xs us Q I r h;obtain⟨x,t,T,b,rfl,ty,e,q⟩:=h;obtain⟨u,v,rfl,ru,rv⟩:=vals2 r;cases(show v=Qk8 T from rv);exact Qj6 I ru ty e λtk=>⟨.bl b,H,I.tok tk,rfl,q⟩
theorem Qhn{bs:List Bool}:∀{us:List Value},Vals (bs.map V.bl) us->LSm.BoolsAre us bs:=by
 induction bs with
 |nil=>intro us r;cases r;exact .nil
 |cons b bs ih=>
  intro us r;cases r with
  |cons r t=>
   cases(show _=Yl b from r);exact .cons b (ih t)
theorem Qcy:CallR X (.builtin "all") (λxs H Q=>∃(p:Addr)(bs:List Bool),xs=[.ref p]/\SqL X.K H p (bs.map V.bl)/\X.calm=true/\Q (.bl (bs.all id)) H):=by
 intro pins s σ H xs us Q I r h;obtain⟨p,bs,rfl,hp,hc,q⟩:=h;obtain⟨u,rfl,ru⟩:=vals1 r;cases ru;obtain⟨its,rv,pl,hz⟩:=I.list hp;have hl:=pl.isList;have hb:=Qhn rv;have hlt:p<s.heap.objs.size:=by obtain⟨_,e,_⟩:=hl;exact Qi e
 refine call_all_walk (YS hl ?_);refine⟨s.heap.objs.size,[s.heap.objs.size,p],[s.heap.objs.size],its.toArray.size,_,_,λi=>(bs[i]?).getD true,rfl,Walks.list (A:=X.A.in1) (I.ok.hd hc) _ p (Qu hlt) its.toArray,
  ⟨⟨_,Qp _ rfl,rfl,rfl⟩,hl.push _⟩,λi v s' Q' E' hP hQ=>?_,λh' tk hk=>?_⟩
 ·obtain⟨b,e,rfl⟩:=hb.get i v (by simpa using hP);simp only[e,Qla] at hQ;exact Jp hQ
 ·have e:((JN its.toArray.size).all λi=>(bs[i]?).getD true)=bs.all id:=by
   rw[Qm,hb.length];exact LSm.range_all bs
  rw[e];exact⟨.bl _,H,I.kept (Qhu hk),rfl,q⟩
theorem Qmi:OpR X (compareOp .Is) (λx y H Q=>∃a b,x=.bl a/\y=.bl b/\Q (.bl (a == b)) H):=by
 intro pins s σ H x y v u Q I rx ry h;obtain⟨a,b,rfl,rfl,q⟩:=h;cases(show v=Yl a from rx);cases(show u=Yl b from ry);refine is_bool ?_
 exact⟨.bl _,H,I,rfl,q⟩
def Qu1:V->Option Int->Option Int->Hp->VK->Prop:=λx lo hi H Q=>∃a xs,x=.ref a/\H a=some (.tup xs)/\∀p H',Same H H'->H' p=some (.tup (Qin xs lo hi))->Q (.ref p) H'
theorem Js{H:Hp}{p:Addr}{o:HO}(h:H p=none):Same H (upd H p o):=λb u e=>by rw[Q5 (JA e h)];exact e
theorem Qbc{prog:QF}{w:Q9}{A:Q6}{E:Value->Shared->Prop}{s:Shared}{t sl:Addr}{items:Array Value}{vl vu:Value}{lo hi:Option Int}{Q:Value->Shared->Prop}(ht:QtZ s.heap t items)(hs:s.heap.IsSliceOf sl vl vu .none)(pl:QfG vl lo)(pu:QfG vu hi)
  (h1:HT.sIx items.size 0 lo=0)(h2:HT.sIx items.size items.size hi=items.size)(h:Q (.ref t) s):wpAny (model prog w) A (getItem (.ref t) (.ref sl)) Q E s:=by
 obtain⟨os,hos,hcs,hds⟩:=id hs;have hTs:s.TypeIs (.ref sl) "slice" := ⟨os,hos,hcs⟩;unfold getItem
 try with_reducible refine JQ ?_
 first | refine wpAny_bind (Qh ?_) | skip
 refine wpAny_bind (QtE ht.typeIs (by decide) ?_);refine wpAny_bind (Zp (name:=Qaq "__getitem__") ht.typeIs Jw
  (ZS Jw ht.typeIs Qra ?_ (Qti _ _)))
 show wpAny _ _ (Qca (.ref t) >>= _) _ _ s;refine wpAny_bind (tupleItemsOf_ ht ?_);refine wpAny_bind (QnQ hTs ?_);rw[if_pos (by decide)];refine wpAny_bind (HT.Qau hs pl pu ?_);show wpAny _ _ (if(((HT.sIx items.size 0 lo:Nat):Int) == 0&&(1:Int) == 1&&(HT.sIx items.size items.size hi - HT.sIx items.size 0 lo) == items.size)=true then _ else _) _ _ s;rw[if_pos (by rw[h1,h2];simp)];refine wpAny_bind (m:=Qt1 _) (wpAny_bind (QnQ ht.typeIs (Qh ?_)));rw[if_pos (by decide)];exact wpAny_bind (wpAny_rule (Qh ⟨_,rfl,Qh h⟩))
theorem Qrw:SlR X Qu1:=by
 intro pins s σ H x v vl vu lo hi sl Q I rx hs pl pu h;obtain⟨a,xs,rfl,hx,q⟩:=h;by_cases hw:HT.sIx xs.length 0 lo=0/\HT.sIx xs.length xs.length hi=xs.length
 ·cases rx;obtain⟨its,r,ht,hz⟩:=I.tuple (SqT.of hx);have hlen:its.toArray.size=xs.length:=by rw[Qm];exact r.length.symm
  refine⟨"tuple",_,Jw.lookup,ht.typeIs,?_⟩;refine Qbc ht hs pl pu (by rw[hlen];exact hw.1) (by rw[hlen];exact hw.2) ?_
  refine⟨.ref a,H,I,rfl,q a H (Same.refl H) ?_⟩;have e:Qin xs lo hi=xs:=by
   unfold Qin;rw[hw.1,hw.2];simp
  rw[e];exact hx
 ·exact Qrv pins s σ H (.ref a) v vl vu lo hi sl Q I rx hs pl pu ⟨a,xs,rfl,SqT.of hx,hw,λp hp=>q p _ (Js hp) Q8⟩
def QrJ:R2:=λx y H Q=>∃a b xs ys,x=.ref a/\y=.ref b/\H a=some (.tup xs)/\H b=some (.tup ys)/\xs.length+ys.length<=sizeLine/\∀p H',Same H H'->H' p=some (.tup (xs++ys))->Q (.ref p) H'
theorem Qo3:OpR X (binaryOp .Add) QrJ:=by
 intro pins s σ H x y v u Q I rx ry h;obtain⟨a,b,xs,ys,rfl,rfl,ha,hb,hz,q⟩:=h;by_cases hx:xs=[]
 ·subst hx;cases rx;cases ry;obtain⟨its,r1,p1,_⟩:=I.tuple (SqT.of ha);obtain⟨its2,r2,p2,_⟩:=I.tuple (SqT.of hb);cases r1;obtain⟨⟨cls,dd,data,sl⟩,ho,hc,n,hd⟩:=id p1;obtain⟨⟨cls2,dd2,data2,sl2⟩,ho2,hc2,n2,hd2⟩:=id p2;simp only at hc hd hc2 hd2;subst hc hd hc2 hd2;exact QnS ⟨_,ho,rfl⟩ ⟨_,ho2,rfl⟩ QfK Qk7 PySem.F.slot_tuple_add PySem.F.entry_tuple_add (PySem.F.args_tuple_add_2 _ _)
   (tuple_addW0 a b #[] its2.toArray n n2 dd dd2 sl sl2 rfl) ⟨ho,ho2,⟨.ref b,H,I,rfl,q b H (Same.refl H) hb⟩⟩
 ·exact Qo2 pins s σ H _ _ v u Q I rx ry ⟨a,b,xs,ys,rfl,rfl,SqT.of ha,SqT.of hb,hx,hz,λe=>q a H (Same.refl H) (by rw[e,Zn];exact ha),λ_ p hp=>q p _ (Js hp) Q8⟩
end
end L2
namespace Rz
open Sem (wp)
section
variable{prog:QF}{w:Q9}{A:Q6}{E:Value->Shared->Prop}{s:Shared}
theorem Qcs{it t:Addr}{i:Nat}{items:Array Value}{x:Value}{Q:Value->Shared->Prop}(hit:s.heap.IsTupleIter it t i)(ht:s.heap.IsTuple t items)(hx:items[i]? = some x)
  (hQ:∀h',h'.IsTupleIter it t (i+1)->Qbi it s.heap h'->Q x { s with heap:=h' }):wpAny (model prog w) A (Jm (.ref it)) Q E s:=by
 obtain⟨o,ho,hc,hd⟩:=id hit;obtain⟨ol,hol,_,nl,hdl⟩:=ht;unfold Jm;refine wpAny_bind (Zp (name:=Qaq "__next__") hit.typeIs Yg
  (ZS Yg hit.typeIs QfM ?_ (QfH _)))
 show wpAny _ _ (field (.ref it) 0 >>= _) _ _ s;refine wpAny_bind (J4 ho hd (x:=.ref t) rfl ?_);show wpAny _ _ (if(Za t == Yy)=true then _ else _) _ _ s;rw[if_neg (show ¬((Za t == Yy)=true) from Qj)];show wpAny _ _ (field (.ref it) 1 >>= _) _ _ s;refine wpAny_bind (J4 ho hd (x:=.int i 0) rfl ?_);show wpAny _ _ (seqItems? (.ref t) >>= _) _ _ s;refine wpAny_bind (Ju hol hdl ?_);simp only[Jt,hx];refine wpAny_bind (wpAny_setField ho hd (by simp) (Qh ⟨x,rfl,Qh (hQ _ ?_ (QeL ..))⟩));exact⟨_,YJ _ ho (Obj.isFreed_of_fields (Qm2 hd _)),(Obj.cls_mapFields ..).trans hc,by
  rw[Qm2 hd];simp[rawInt]⟩
theorem Qf3{it t:Addr}{i:Nat}{items:Array Value}{Q:Value->Shared->Prop}(hh:A.handled=none)(hit:s.heap.IsTupleIter it t i)(ht:s.heap.IsTuple t items)(hx:items[i]? = none)
  (hE:∀h' e,Heap.ExtBut it s.heap h'->(∃o,h'.get? e=some o/\o.cls=.type "StopIteration")->E (.ref e) { s with heap:=h' }):wpAny (model prog w) A (Jm (.ref it)) Q E s:=by
 obtain⟨o,ho,hc,hd⟩:=id hit;obtain⟨ol,hol,_,nl,hdl⟩:=ht;unfold Jm;refine wpAny_bind (Zp (name:=Qaq "__next__") hit.typeIs Yg
  (ZS Yg hit.typeIs QfM ?_ (QfH _)))
 show wpAny _ _ (field (.ref it) 0 >>= _) _ _ s;refine wpAny_bind (J4 ho hd (x:=.ref t) rfl ?_);show wpAny _ _ (if(Za t == Yy)=true then _ else _) _ _ s;rw[if_neg (show ¬((Za t == Yy)=true) from Qj)];show wpAny _ _ (field (.ref it) 1 >>= _) _ _ s;refine wpAny_bind (J4 ho hd (x:=.int i 0) rfl ?_);show wpAny _ _ (seqItems? (.ref t) >>= _) _ _ s;refine wpAny_bind (Ju hol hdl ?_);simp only[Jt,hx];refine wpAny_bind (wpAny_rule (wpAny_bind (wpAny_setField ho hd (by simp) ?_)));show wpAny _ _ (newExc (.type "StopIteration") [] >>= _) _ _ _;refine wpAny_bind ?_
 simp only[newExc,newTuple];refine wpAny_bind (JB ?_ (by size_fits));refine wpAny_bind (m:=firstArgMember _ _) (Qp9 (a:=Yy) (by first | rfl | (simp only[firstArgMember];rfl)) ?_);refine JB ?_ (by size_fits)
 simp only[raiseNew];refine wpAny_bind (wpAny_handled ?_)
 first | rw[show A.in1.handled=none from hh] | rw[hh]
 refine wpAny_bind (Qh (wpAny_throw ?_));exact hE _ _ (((QeL ..).extBut.push _).push _) ⟨_,Qp _ rfl,rfl⟩
structure Apart (z TI TO i1 i2 t1 t2:Addr):Prop where
 a1:TI≠z
 a2:TO≠z
 a3:i1≠z
 a4:i2≠z
 a5:TI≠TO
 a6:TI≠i1
 a7:TI≠i2
 a8:TO≠i1
 a9:TO≠i2
 b1:i1≠i2
 b2:t1≠z/\t1≠TO/\t1≠i1/\t1≠i2
 b3:t2≠z/\t2≠TO/\t2≠i1/\t2≠i2
structure QkY (h:JU) (z TI TO i1 i2 t1 t2:Addr) (f:Value) (k:Nat):Prop where
 zp:Qn2 h z TI TO f
 ti:IsPair h TI (.ref i1) (.ref i2)
 to:∃a b,IsPair h TO a b
 i1:h.IsTupleIter i1 t1 k
 i2:h.IsTupleIter i2 t2 k
theorem QjK{z TI TO i1 i2 t1 t2:Addr}{k:Nat}{xs ys:Array Value}{x y:Value}{Q:Option Value->Shared->Prop}(D:Apart z TI TO i1 i2 t1 t2)(Z:QkY s.heap z TI TO i1 i2 t1 t2 .none k)
  (hl1:s.heap.IsTuple t1 xs)(hl2:s.heap.IsTuple t2 ys)(hx:xs[k]? = some x)(hy:ys[k]? = some y)
  (hQ:∀h',QkY h' z TI TO i1 i2 t1 t2 (rawInt s.heap.objs.size) (k+1)->IsPair h' s.heap.objs.size x y->(∀c o,c≠z->c≠TO->c≠i1->c≠i2->s.heap.get? c=some o->h'.get? c=some o)->Q (some (.ref s.heap.objs.size)) { s with heap:=h' }) :
  wpAny (model prog w) A (pyNext (.ref z)) Q E s:=by
 obtain⟨hz,hTI,⟨a,b,hTO⟩,h1,h2⟩:=Z;have hT:s.TypeIs (.ref z) "zip" := ⟨_,hz,rfl⟩;unfold pyNext;refine wpAny_bind (wpAny_attempt (Zp (name:=Qaq "__next__") hT QbH (ZS QbH hT Qtq ?_ (Qre _))));show wpAny _ _ (field (.ref z) 2 >>= _) _ _ _;refine wpAny_bind (J4 hz rfl (x:=.bool false) rfl ?_);show wpAny _ _ (field (.ref z) 3 >>= _) _ _ _;refine wpAny_bind (J4 hz rfl (x:=.ref TI) rfl (wpAny_bind (Ju hTI rfl ?_)));show wpAny _ _ (JY (.ref z) >>= _) _ _ _;refine wpAny_bind ?_
 unfold JY;refine wpAny_bind (J4 hz rfl (x:=.none) rfl (Qh ?_));simp only[if_true];refine wpAny_bind (wpAny_rule (wpAny_bind (J4 hz rfl (x:=.ref TO) rfl (wpAny_bind (Z0 hz (by simp) λg1 z1 s1=>?_)))))
 replace z1:Qn2 g1 z TI TO .ellipsis:=z1
 refine wpAny_bind ?_
 simp only[QnX,QpX,QeK,Qrd];refine wpAny_bind (wpAny_bind (QdW ?_));show wpAny _ _ (Jm (.ref i1) >>= _) _ _ _;refine wpAny_bind (Qcs (h1.extBut s1.extBut D.a3) (hl1.extBut s1.extBut D.b2.1) hx λg2 p2 s2=>Qh ?_);have o2:IsPair g2 TO a b:=s2.extBut _ _ D.a8 (s1.extBut _ _ D.a2 hTO);refine wpAny_bind (Ju o2 rfl (wpAny_bind (Qcz o2 λg3 o3 s3=>wpAny_bind (ZL (Qh ?_)))))
 replace o3:IsPair g3 TO x b:=o3
 refine wpAny_bind (wpAny_bind (QdW ?_));show wpAny _ _ (Jm (.ref i2) >>= _) _ _ _;refine wpAny_bind (Qcs (((h2.extBut s1.extBut D.a4).extBut s2.extBut D.b1.symm).extBut s3.extBut D.a9.symm)
  (((hl2.extBut s1.extBut D.b3.1).extBut s2.extBut D.b3.2.2.1).extBut s3.extBut D.b3.2.1) hy λg4 p4 s4=>Qh ?_)
 have o4:IsPair g4 TO x b:=s4.extBut _ _ D.a9 o3;refine wpAny_bind (Ju o4 rfl (wpAny_bind (Qcz o4 λg5 o5 s5=>wpAny_bind (ZL (Qh (Qh ?_))))))
 replace o5:IsPair g5 TO x y:=o5
 refine wpAny_bind (Ju o5 rfl (wpAny_bind (wpAny_newTuple ?_)));have sz:g5.objs.size=s.heap.objs.size:=by rw[s5.1,s4.1,s3.1,s2.1,s1.1]
 have kp:∀c o,c≠z->c≠TO->c≠i1->c≠i2->s.heap.get? c=some o->g5.get? c=some o:=λc o c1 c2 c3 c4 e=>
  s5.extBut _ _ c2 (s4.extBut _ _ c4 (s3.extBut _ _ c2 (s2.extBut _ _ c3 (s1.extBut _ _ c1 e))))
 have z5:Qn2 g5 z TI TO .ellipsis:=s5.extBut _ _ D.a2.symm (s4.extBut _ _ D.a4.symm (s3.extBut _ _ D.a2.symm (s2.extBut _ _ D.a3.symm z1)));have q1:g5.IsTupleIter i1 t1 (k+1):=((p2.extBut s3.extBut D.a8.symm).extBut s4.extBut D.b1).extBut s5.extBut D.a8.symm;have q2:g5.IsTupleIter i2 t2 (k+1):=p4.extBut s5.extBut D.a9.symm;show wpAny _ _ (Y6 (.ref z) (.ref g5.objs.size) >>= _) _ _ _;refine wpAny_bind ?_
 unfold Y6;have z6:Qn2 (g5.push { cls:=.type "tuple",data:=.seq #[x,y] }) z TI TO .ellipsis:=Qd _ z5;refine wpAny_bind (Z0 z6 (by simp) λg7 z7 s7=>?_)
 replace z7:Qn2 g7 z TI TO (rawInt g5.objs.size):=z7
 refine Z0 z7 (by simp) λg8 z8 s8=>?_
 replace z8:Qn2 g8 z TI TO (rawInt g5.objs.size):=z8
 have up:∀c o,c≠z->g5.get? c=some o->g8.get? c=some o:=λc o c1 e=>s8.extBut _ _ c1 (s7.extBut _ _ c1 (Qd _ e))
 have ne:g5.objs.size≠z:=Qbm (Qi z5);have t8:IsPair g8 g5.objs.size x y:=s8.extBut _ _ ne (s7.extBut _ _ ne (Qp _ rfl));rw[sz] at z8 t8;refine Qh ⟨_,rfl,Qh ?_⟩;show Q (some (.ref g5.objs.size)) _;rw[sz];exact hQ g8 ⟨z8,up _ _ D.a1 (kp _ _ D.a1 D.a5 D.a6 D.a7 hTI),⟨x,y,up _ _ D.a2 o5⟩,q1.at λo e=>up _ o D.a3 e,q2.at λo e=>up _ o D.a4 e⟩ t8 λc o c1 c2 c3 c4 e=>up c o c1 (kp c o c1 c2 c3 c4 e)
theorem Qmv{z TI TO i1 i2 t1 t2:Addr}{k:Nat}{xs ys:Array Value}{Q:Option Value->Shared->Prop}(hh:A.handled=none)(D:Apart z TI TO i1 i2 t1 t2)(Z:QkY s.heap z TI TO i1 i2 t1 t2 .none k)
  (hl1:s.heap.IsTuple t1 xs)(hl2:s.heap.IsTuple t2 ys)(hend:xs[k]? = none∨ys[k]? = none)
  (hQ:∀h',(∀c o,c≠z->c≠TO->c≠i1->c≠i2->s.heap.get? c=some o->h'.get? c=some o)->Q none { s with heap:=h' }):wpAny (model prog w) A (pyNext (.ref z)) Q E s:=by
 obtain⟨hz,hTI,⟨a,b,hTO⟩,h1,h2⟩:=Z;have hT:s.TypeIs (.ref z) "zip" := ⟨_,hz,rfl⟩;have fin:∀(h':JU)(e:Addr),(∀c o,c≠z->c≠TO->c≠i1->c≠i2->s.heap.get? c=some o->h'.get? c=some o)->(∃o,h'.get? e=some o/\o.cls=.type "StopIteration") ->
   wpAny (model prog w) A (isInstance (.ref e) (.type "StopIteration") >>= λx=>if x=true then pure none else throw (.ref e)) Q E { s with heap:=h' }:=λh' e hk he=>by
  obtain⟨o,ho,hc⟩:=he;refine wpAny_bind (wpAny_isInstance (T := "StopIteration") (b:=true) ⟨o,ho,hc⟩ isSubtype_stop ?_);exact Qh (hQ _ hk)
 unfold pyNext;refine wpAny_bind (wpAny_attempt (Zp (name:=Qaq "__next__") hT QbH (ZS QbH hT Qtq ?_ (Qre _))));show wpAny _ _ (field (.ref z) 2 >>= _) _ _ _;refine wpAny_bind (J4 hz rfl (x:=.bool false) rfl ?_);show wpAny _ _ (field (.ref z) 3 >>= _) _ _ _;refine wpAny_bind (J4 hz rfl (x:=.ref TI) rfl (wpAny_bind (Ju hTI rfl ?_)));show wpAny _ _ (JY (.ref z) >>= _) _ _ _;refine wpAny_bind ?_
 unfold JY;refine wpAny_bind (J4 hz rfl (x:=.none) rfl (Qh ?_));simp only[if_true];refine wpAny_bind (wpAny_rule (wpAny_bind (J4 hz rfl (x:=.ref TO) rfl (wpAny_bind (Z0 hz (by simp) λg1 z1 s1=>?_)))))
 replace z1:Qn2 g1 z TI TO .ellipsis:=z1
 refine wpAny_bind ?_
 simp only[QnX,QpX,QeK,Qrd];refine wpAny_bind (wpAny_bind (QdW ?_));show wpAny _ _ (Jm (.ref i1) >>= _) _ _ _;cases hx:xs[k]? with
 |none=>
  refine wpAny_bind (Qf3 hh (h1.extBut s1.extBut D.a3) (hl1.extBut s1.extBut D.b2.1) hx λg2 e s2 he=>?_);obtain⟨oe,hoe,hce⟩:=he;have z2:Qn2 g2 z TI TO .ellipsis:=s2 _ _ D.a3.symm z1;have hez:e≠z:=λq=>by subst q;rw[z2] at hoe;cases hoe;simp at hce
  refine Z0 z2 (by simp) λg3 _ s3=>?_
  exact fin g3 e (λc o c1 _ c3 _ q=>s3.extBut _ _ c1 (s2 _ _ c3 (s1.extBut _ _ c1 q))) ⟨oe,s3.extBut _ _ hez hoe,hce⟩
 |some x=>
  have hy:ys[k]? = none:=by
   rcases hend with q | q
   ·rw[hx] at q;cases q
   ·exact q
  refine wpAny_bind (Qcs (h1.extBut s1.extBut D.a3) (hl1.extBut s1.extBut D.b2.1) hx λg2 p2 s2=>Qh ?_);have o2:IsPair g2 TO a b:=s2.extBut _ _ D.a8 (s1.extBut _ _ D.a2 hTO);refine wpAny_bind (Ju o2 rfl (wpAny_bind (Qcz o2 λg3 o3 s3=>wpAny_bind (ZL (Qh ?_)))));refine wpAny_bind (wpAny_bind (QdW ?_));show wpAny _ _ (Jm (.ref i2) >>= _) _ _ _;refine wpAny_bind (Qf3 hh (((h2.extBut s1.extBut D.a4).extBut s2.extBut D.b1.symm).extBut s3.extBut D.a9.symm)
   (((hl2.extBut s1.extBut D.b3.1).extBut s2.extBut D.b3.2.2.1).extBut s3.extBut D.b3.2.1) hy λg4 e s4 he=>?_)
  obtain⟨oe,hoe,hce⟩:=he;have z4:Qn2 g4 z TI TO .ellipsis:=s4 _ _ D.a4.symm (s3.extBut _ _ D.a2.symm (s2.extBut _ _ D.a3.symm z1));have hez:e≠z:=λq=>by subst q;rw[z4] at hoe;cases hoe;simp at hce
  refine Z0 z4 (by simp) λg5 _ s5=>?_
  exact fin g5 e (λc o c1 c2 c3 c4 q=>s5.extBut _ _ c1 (s4 _ _ c4 (s3.extBut _ _ c2 (s2.extBut _ _ c3 (s1.extBut _ _ c1 q))))) ⟨oe,s5.extBut _ _ hez hoe,hce⟩
end
abbrev zh1 (h:JU) (t1:Addr):JU:=h.push { cls:=.type "tuple_iterator",data:=.fields #[.ref t1,.int 0 0] }
abbrev zh2 (h:JU) (t1 t2:Addr):JU:=(zh1 h t1).push { cls:=.type "tuple_iterator",data:=.fields #[.ref t2,.int 0 0] }
abbrev zh3 (h:JU) (t1 t2:Addr):JU:=(zh2 h t1 t2).push { cls:=.type "tuple",data:=.seq #[.ref h.objs.size,.ref (zh1 h t1).objs.size] }
abbrev zh4 (h:JU) (t1 t2:Addr):JU:=(zh3 h t1 t2).push { cls:=.type "tuple",data:=.seq #[.none,.none] }
abbrev zh5 (h:JU) (t1 t2:Addr):JU:=(zh4 h t1 t2).push { cls:=.type "zip",data:=.fields #[.none,.bool false,.bool false,.ref (zh2 h t1 t2).objs.size,.ref (zh3 h t1 t2).objs.size] }
theorem QvW(t1 t2:Addr)(xs ys:Array Value) :
  Meets (Qhx.«zip.__new__» ⟨[.type "zip",.ref t1,.ref t2],[]⟩) (λ_ R s=>s.heap.IsTuple t1 xs/\s.heap.IsTuple t2 ys/\R (.ok (.ret (.ref (zh4 s.heap t1 t2).objs.size))) { s with heap:=zh5 s.heap t1 t2 }):=
 .of_wp λprog w A R s h=>by
  obtain⟨hp,g,d,tk,os⟩:=s;obtain⟨hl1,hl2,h⟩:=h;have hsub:=sub_zip;have k1:Qij (Qib ⟨hp,g,d,tk,os⟩) t1 xs:=hl1;have k2:Qij (Qib ⟨hp.push { cls:=.type "tuple_iterator",data:=.fields #[.ref t1,.int 0 0] },g,d,tk,os⟩) t2 ys:=hl2.at λo e=>Qd _ e
  wp_walk using Zu k1,Zu k2
  exact⟨_,rfl,h⟩
section
variable{prog:QF}{w:Q9}{A:Q6}{E:Value->Shared->Prop}{s:Shared}
theorem QmU{t1 t2:Addr}{xs ys:Array Value}{Q:Value->Shared->Prop}(hl1:s.heap.IsTuple t1 xs)(hl2:s.heap.IsTuple t2 ys)
  (h:∀h',QkY h' (s.heap.objs.size+4) (s.heap.objs.size+2) (s.heap.objs.size+3) s.heap.objs.size (s.heap.objs.size+1) t1 t2 .none 0->(∀c o,s.heap.get? c=some o->h'.get? c=some o)->Q (.ref (s.heap.objs.size+4)) { s with heap:=h' }) :
  wpAny (model prog w) A (call (.type "zip") [.ref t1,.ref t2]) Q E s:=by
 refine callType_new F.called_zip (by decide) (F.typeCall_zip_2 _ _) (F.newCall_zip_2 _ _) (λobj=>F.args_object_init_3 obj _ _) F.entry_zip_new (QvW t1 t2 xs ys) ⟨hl1,hl2,?_⟩;have z1:(zh1 s.heap t1).objs.size=s.heap.objs.size+1:=Zh ..;have z2:(zh2 s.heap t1 t2).objs.size=s.heap.objs.size+2:=by rw[Zh,z1]
 have z3:(zh3 s.heap t1 t2).objs.size=s.heap.objs.size+3:=by rw[Zh,z2]
 have z4:(zh4 s.heap t1 t2).objs.size=s.heap.objs.size+4:=by rw[Zh,z3]
 have g5:(zh5 s.heap t1 t2).get? (zh4 s.heap t1 t2).objs.size=some _:=Qp _ rfl;have g4:(zh5 s.heap t1 t2).get? (zh3 s.heap t1 t2).objs.size=some _:=Qd _ (Qp _ rfl);have g3:(zh5 s.heap t1 t2).get? (zh2 s.heap t1 t2).objs.size=some _:=Qd _ (Qd _ (Qp _ rfl));have g2:(zh5 s.heap t1 t2).get? (zh1 s.heap t1).objs.size=some _:=Qd _ (Qd _ (Qd _ (Qp _ rfl)));have g1:(zh5 s.heap t1 t2).get? s.heap.objs.size=some _:=Qd _ (Qd _ (Qd _ (Qd _ (Qp _ rfl))));show _/\_;rw[z2,z3,z4] at g5;rw[z1,z2] at g3;rw[z3] at g4;rw[z1] at g2;rw[z4];exact⟨⟨_,g5,rfl⟩,h _ ⟨g5,g3,⟨_,_,g4⟩,⟨_,g1,rfl,rfl⟩,⟨_,g2,rfl,rfl⟩⟩ λc o x=>Qd _ (Qd _ (Qd _ (Qd _ (Qd _ x))))⟩
end
end Rz
namespace L2
section
variable{X:Cx}{pins:List (Addr×Obj)}{σ:St}{H:Hp}{s:Shared}{h':JU}
theorem Inv.turnedNew{t':Nat}{ch:List Addr}{a:Addr}{o:HO}(I:Inv X pins σ H s)(hch:∀b∈ch,FpOk X pins H b)(k:∀b u,b∉ch->s.heap.get? b=some u->h'.get? b=some u)(hp:s.heap.objs.size<=a)
  (new:ObjOk X.prog X.w (upd H a o) h' a o):Inv X pins σ (upd H a o) { s with heap:=h',toks:=t' }:=by
 have hn:H a=none:=I.hok.fresh hp;have nch:∀b u,H b=some u->b∉ch:=λb u e z=>by rw[(hch b z).1] at e;cases e
 refine I.step (g':=s.gens) (d':=s.drawn) (ch:=ch) (λb hb=>?_) (λb u _ _ hc e _=>k b u hc e) (λb u _ _ hc e _=>⟨u.slots,k b u hc e⟩) (λb u hc e n=>?_) (λb u hc e=>⟨u,k b u hc e⟩)
  (λb xs e=>by rw[Q5 (JA e hn)];exact e) (λb u v e=>by rw[Q5 (JA e hn)];exact e) (λb ps e=>⟨#[],by rw[Q5 (JA e hn),e];simp⟩) (λm hm=>?_) (λb u e=>?_) I.bare
 ·obtain⟨f0,f1,f2,f3,f4,f5⟩:=hch b hb;exact⟨f3,f1,f4,f5⟩
 ·rw[Q5 (Qu (QH (Qi e) hp))];exact n
 ·obtain⟨u,es,ep,ho,r⟩:=hm;exact⟨u,es,ep,k _ u (λz=>(hch _ z).2.1 rfl) ho,r⟩
 ·by_cases hb:b=a
  ·subst hb;rw[Q8] at e;cases e;exact new
  ·rw[Q5 hb] at e;refine(I.hok b u e).stay (λc v hc q=>k c v ?_ q) (λc q=>by rw[Q5 (JA q hn)];exact q) (λc xs q=>by rw[Q5 (JA q hn)];exact q) λc z u q=>by rw[Q5 (JA q hn)];exact q
   rcases hc with z | z
   ·rw[z];exact nch b u e
   ·exact nch c _ z
theorem Inv.turnedAll{t':Nat}{ch:List Addr}(I:Inv X pins σ H s)(hch:∀b∈ch,FpOk X pins H b)(k:∀b u,b∉ch->s.heap.get? b=some u->h'.get? b=some u):Inv X pins σ H { s with heap:=h',toks:=t' }:=by
 have nch:∀b u,H b=some u->b∉ch:=λb u e z=>by rw[(hch b z).1] at e;cases e
 refine I.step (g':=s.gens) (d':=s.drawn) (ch:=ch) (λb hb=>?_) (λb u _ _ hc e _=>k b u hc e) (λb u _ _ hc e _=>⟨u.slots,k b u hc e⟩) (λb u hc e n=>n) (λb u hc e=>⟨u,k b u hc e⟩)
  (λb xs e=>e) (λb u v e=>e) (λb ps e=>⟨#[],by rw[e];simp⟩) (λm hm=>?_) (λb u e=>?_) I.bare
 ·obtain⟨f0,f1,f2,f3,f4,f5⟩:=hch b hb;exact⟨f3,f1,f4,f5⟩
 ·obtain⟨u,es,ep,ho,r⟩:=hm;exact⟨u,es,ep,k _ u (λz=>(hch _ z).2.1 rfl) ho,r⟩
 ·refine(I.hok b u e).stay (λc v hc q=>k c v ?_ q) (λc q=>q) λc xs q=>q
  rcases hc with z | z
  ·rw[z];exact nch b u e
  ·exact nch c _ z
end
def Itz(t1 t2:Addr):It:=
 ⟨λi H=>∃xs ys x y,H t1=some (.tup xs)/\H t2=some (.tup ys)/\xs[i]? = some x/\ys[i]? = some y,
  λi H v H'=>∃p x y,H p=none/\(∀xs,H t1=some (.tup xs)->xs[i]? = some x)/\(∀ys,H t2=some (.tup ys)->ys[i]? = some y)/\v=.ref p/\H'=upd H p (.tup [x,y]),
  λi H=>∃xs ys,H t1=some (.tup xs)/\H t2=some (.tup ys)/\(xs.length<=i∨ys.length<=i)⟩
theorem Qlk{P:QF}{w:Q9}{K:PySem.W.Frag}{elts:List QM}{x1}{tpos:Pos}{z TI TO i1 i2 t1 t2:Addr}(D:Rz.Apart z TI TO i1 i2 t1 t2) :
  Turn P w K (.Tuple elts x1 tpos) (Itz t1 t2) [z,TI,TO,i1,i2] z (λi h=>Rz.QkY h z TI TO i1 i2 t1 t2 .none i) where
 mem:=by simp
 obj:=λi h st b hb=>by
  obtain⟨a1,a2,⟨_,_,a3⟩,⟨o4,a4,_,d4⟩,⟨o5,a5,_,d5⟩⟩:=st;simp only[Qy,QX,or_false] at hb;rcases hb with rfl | rfl | rfl | rfl | rfl
  ·exact⟨_,a1,λv q=>nomatch q⟩
  ·exact⟨_,a2,λv q=>nomatch q⟩
  ·exact⟨_,a3,λv q=>nomatch q⟩
  ·exact⟨_,a4,λv q=>by rw[d4] at q;cases q⟩
  ·exact⟨_,a5,λv q=>by rw[d5] at q;cases q⟩
 keep:=λi h h' st k=>by
  obtain⟨a1,a2,⟨a,b,a3⟩,a4,a5⟩:=st;exact⟨k z (by simp) _ a1,k TI (by simp) _ a2,⟨a,b,k TO (by simp) _ a3⟩,a4.at λo e=>k i1 (by simp) o e,a5.at λo e=>k i2 (by simp) o e⟩
 item:=by
  intro X hP hw hK hc i pins s σ H E I hf st hg;subst hP hw hK;obtain⟨xs,ys,x,y,h1,h2,hx,hy⟩:=hg;obtain⟨its1,r1,p1,_⟩:=I.tuple (SqT.of h1);obtain⟨its2,r2,p2,_⟩:=I.tuple (SqT.of h2);obtain⟨u1,hu1,ru1⟩:=r1.get hx;obtain⟨u2,hu2,ru2⟩:=r2.get hy;refine Rz.QjK D st (show s.heap.IsTuple t1 its1.toArray from p1) (show s.heap.IsTuple t2 its2.toArray from p2) (by simpa using hu1) (by simpa using hu2) λh' st' tp kp=>?_
  have hlt:∀b∈[z,TI,TO,i1,i2],b≠s.heap.objs.size:=λb hb=>by
   obtain⟨a1,a2,⟨_,_,a3⟩,⟨o4,a4,_,d4⟩,⟨o5,a5,_,d5⟩⟩:=st;simp only[Qy,QX,or_false] at hb;rcases hb with rfl | rfl | rfl | rfl | rfl
   ·exact Qu (Qi a1)
   ·exact Qu (Qi a2)
   ·exact Qu (Qi a3)
   ·exact Qu (Qi a4)
   ·exact Qu (Qi a5)
  have fr:H s.heap.objs.size=none:=I.hok.fresh (Qk _);refine⟨_,rfl,Qio st'.zp λh2' z2 s2=>?_⟩;have I1:Inv X pins σ (upd H s.heap.objs.size (.tup [x,y])) { s with heap:=h2',toks:=s.toks }:=by
   refine I.turnedNew (ch:=[z,TI,TO,i1,i2]) hf (λb u hb e=>?_) (Qk _) ⟨by show 2<=sizeLine;decide,[u1,u2],.cons ru1 (.cons ru2 .nil),?_⟩
   ·simp only[Qy,QX,or_false,not_or] at hb;exact s2.extBut _ _ hb.1 (kp b u hb.1 hb.2.2.1 hb.2.2.2.1 hb.2.2.2.2 e)
   ·exact⟨_,s2.extBut _ _ (hlt z (by simp)).symm tp,rfl,rfl,0,rfl⟩
  refine⟨.ref s.heap.objs.size,_,I1,rfl,⟨_,x,y,fr,λxs' e=>?_,λys' e=>?_,rfl,rfl⟩,?_,λb hb=>?_⟩
  ·rw[h1] at e;cases e;exact hx
  ·rw[h2] at e;cases e;exact hy
  ·obtain⟨a1,a2,⟨a,b,a3⟩,a4,a5⟩:=st';exact⟨z2,s2.extBut _ _ D.a1 a2,⟨a,b,s2.extBut _ _ D.a2 a3⟩,a4.extBut s2.extBut D.a3,a5.extBut s2.extBut D.a4⟩
  ·rw[Q5 (hlt b hb)];exact(hf b hb).1
 done:=by
  intro X hP hw hK hc i pins s σ H E I hf st hg;subst hP hw hK;obtain⟨xs,ys,h1,h2,he⟩:=hg;obtain⟨its1,r1,p1,_⟩:=I.tuple (SqT.of h1);obtain⟨its2,r2,p2,_⟩:=I.tuple (SqT.of h2);have l1:=r1.length;have l2:=r2.length;refine Rz.Qmv (I.ok.hd hc) D st (show s.heap.IsTuple t1 its1.toArray from p1) (show s.heap.IsTuple t2 its2.toArray from p2) ?_ λh' kp=>⟨rfl,I.turnedAll (t':=s.toks) (ch:=[z,TI,TO,i1,i2]) hf λb u hb e=>?_⟩
  ·rcases he with q | q
   ·exact .inl (by simp;omega)
   ·exact .inr (by simp;omega)
  ·simp only[Qy,QX,or_false,not_or] at hb;exact kp b u hb.1 hb.2.2.1 hb.2.2.2.1 hb.2.2.2.2 e
 self:=λ_ _ _ _ _ st h=>QbB st.zp h
section
variable{X:Cx}
theorem apart_new(n t1 t2:Nat)(h1:t1<n)(h2:t2<n):Rz.Apart (n+4) (n+2) (n+3) n (n+1) t1 t2 where
 a1:=by show ¬(n+2=n+4);omega
 a2:=by show ¬(n+3=n+4);omega
 a3:=by show ¬(n=n+4);omega
 a4:=by show ¬(n+1=n+4);omega
 a5:=by show ¬(n+2=n+3);omega
 a6:=by show ¬(n+2=n);omega
 a7:=by show ¬(n+2=n+1);omega
 a8:=by show ¬(n+3=n);omega
 a9:=by show ¬(n+3=n+1);omega
 b1:=by show ¬(n=n+1);omega
 b2:=⟨by show ¬(t1=n+4);omega,by show ¬(t1=n+3);omega,by show ¬(t1=n);omega,by show ¬(t1=n+1);omega⟩
 b3:=⟨by show ¬(t2=n+4);omega,by show ¬(t2=n+3);omega,by show ¬(t2=n);omega,by show ¬(t2=n+1);omega⟩
def Qv4(ta:TA):TI:=λσ H R=>ta σ H λvs H1=>∃t1 t2 xs ys,vs=[.ref t1,.ref t2]/\H1 t1=some (.tup xs)/\H1 t2=some (.tup ys)/\R (Itz t1 t2) H1
theorem QkP:bootBuiltins "zip" = some (.type "zip"):=by decide +kernel
theorem Qnr{a b:QM}{elts:List QM}{x1}{tpos:Pos}{ta:TA}{p pos:Pos}(hg:Gl X "zip")(hm:X.mg "zip" = none)(ha:PA X [a,b] ta)(hs:starEach [a,b] X.env=[(false,eval a X.env),(false,eval b X.env)]:=by rfl)(hs2:starEach [b] X.env=[(false,eval b X.env)]:=by rfl) :
  PI X (.Tuple elts x1 tpos) (.Call (.Name "zip" p) [a,b] [] pos) (Qv4 ta):=by
 intro pins s σ H R I h;refine Call_ (Qbw I hg hm QkP (JG (thn (ha pos pins s σ H _ I h) λus s1 ⟨vs,H1,I1,r1,q1⟩=>?_) (by rw[hs,hs2]) (by rw[hs2];rfl)));obtain⟨t1,t2,xs,ys,e,h1,h2,q⟩:=q1;subst e;obtain⟨u,v,rfl,ru,rv⟩:=vals2 r1;cases(show u=Za t1 from ru);cases(show v=Za t2 from rv);obtain⟨its1,w1,p1,_⟩:=I1.tuple (SqT.of h1);obtain⟨its2,w2,p2,_⟩:=I1.tuple (SqT.of h2);have n1:t1<s1.heap.objs.size:=I1.hok.lt h1;have n2:t2<s1.heap.objs.size:=I1.hok.lt h2;refine Rz.QmU (show s1.heap.IsTuple t1 its1.toArray from p1) (show s1.heap.IsTuple t2 its2.toArray from p2) λh' st kp=>?_
 refine QbB (s:={ s1 with heap:=h' }) st.zp ?_
 have D:=apart_new s1.heap.objs.size t1 t2 n1 n2;refine⟨s1.heap.objs.size+4,_,_,_,H1,rfl,I1.kept (t':=s1.toks) kp,Qlk D,st,λb hb=>?_,q⟩;have hb':s1.heap.objs.size<=b:=by
  simp only[Qy,QX,or_false] at hb;rcases hb with rfl | rfl | rfl | rfl | rfl<;>omega
 exact I1.fpOk hb' (I1.hok.fresh hb')
end
end L2
namespace Rk
open L2
def QuZ:Option HO->Option (List V)
 |some (.tup xs)=>some xs
 |_=>none
def Qeb(H:Hp):V->Option (List V)
 |.ref a=>QuZ (H a)
 |_=>none
theorem QgA(H:Hp)(a:Addr):Qeb H (.ref a)=QuZ (H a):=rfl
def isT(H:Hp)(x:V):Bool:=(Qeb H x).isSome
def isI:V->Bool
 |.int _=>true
 |_=>false
def isB:V->Bool
 |.bl _=>true
 |_=>false
def Kn(p:Addr)(H:Hp):V->Prop
 |.non=>True
 |.bl _=>True
 |.int _=>True
 |.str _=>True
 |.ref a=>a≠p/\((∃xs,H a=some (.tup xs))∨(∃xs,H a=some (.lst xs))∨∃kvs,H a=some (.dK kvs))
 |_=>False
def KnD(p:Addr):Nat->Hp->V->Prop
 |0,H,x=>Kn p H x
 |n+1,H,x=>Kn p H x/\∀xs,Qeb H x=some xs->∀y∈xs,KnD p n H y
def KX(p:Addr)(H H':Hp):Prop:=∀b o,b≠p->H b=some o->H' b=some o
theorem KX.of{p:Addr}{H H':Hp}(h:Same H H'):KX p H H':=λb o _ e=>h b o e
theorem KX.new{p q:Addr}{H:Hp}{o:HO}(h:H q=none):KX p H (L2.upd H q o):=KX.of (Js h)
theorem KnD.kn{p:Addr}{H:Hp}{x:V}:∀{n:Nat},KnD p n H x->Kn p H x
 |0,h=>h
 |_+1,h=>h.1
theorem KnD.low{p:Addr}{H:Hp}:∀{n:Nat}{x:V},KnD p (n+1) H x->KnD p n H x
 |0,x,h=>h.1
 |n+1,x,h=>⟨h.1,λxs e y hy=>KnD.low (h.2 xs e y hy)⟩
theorem KnD.tup{p:Addr}{H:Hp}{n:Nat}{a:Addr}{xs:List V}(hp:a≠p)(e:H a=some (.tup xs))(h:∀y∈xs,KnD p n H y):KnD p (n+1) H (.ref a):=
 ⟨⟨hp,.inl ⟨xs,e⟩⟩,λys z y hy=>h y (by
  have z':some xs=some ys:=by rw[<- z,QgA,e];rfl
  cases z';exact hy)⟩
theorem KnD.int{p:Addr}{H:Hp}(i:Int):∀(n:Nat),KnD p n H (.int i)
 |0=>trivial
 |n+1=>⟨trivial,λ_ e=>nomatch e⟩
theorem QeY{H:Hp}{a:Addr}{xs:List V}(e:H a=some (.tup xs)):Qeb H (.ref a)=some xs:=by rw[QgA,e];rfl
theorem Qg6{K:PySem.W.Frag}{p:Addr}{H:Hp}:∀{x:V},Kn p H x->∃t,TyOf K H x t/\PySem.W.kitOne K t (.type "int")=some (isI x||isB x)
 |.non,h=>⟨_,.non,rfl⟩
 |.bl _,h=>⟨_,.bl _,rfl⟩
 |.int _,h=>⟨_,.int _,rfl⟩
 |.str _,h=>⟨_,.str _,rfl⟩
 |.ref a,⟨_,h⟩=>by
  rcases h with⟨xs,e⟩ | ⟨xs,e⟩ | ⟨xs,e⟩
  ·exact⟨_,.tup e,rfl⟩
  ·exact⟨_,.lst e,rfl⟩
  ·exact⟨_,.dK e,rfl⟩
 |.byt _,h=>h.elim
 |.flt _,h=>h.elim
 |.ty _,h=>h.elim
theorem Qj8{K:PySem.W.Frag}{p:Addr}{H:Hp}:∀{x:V},Kn p H x->∃t,TyOf K H x t/\PySem.W.kitOne K t (.type "bool")=some (isB x)
 |.non,h=>⟨_,.non,rfl⟩
 |.bl _,h=>⟨_,.bl _,rfl⟩
 |.int _,h=>⟨_,.int _,rfl⟩
 |.str _,h=>⟨_,.str _,rfl⟩
 |.ref a,⟨_,h⟩=>by
  rcases h with⟨xs,e⟩ | ⟨xs,e⟩ | ⟨xs,e⟩
  ·exact⟨_,.tup e,rfl⟩
  ·exact⟨_,.lst e,rfl⟩
  ·exact⟨_,.dK e,rfl⟩
 |.byt _,h=>h.elim
 |.flt _,h=>h.elim
 |.ty _,h=>h.elim
def QnB(H:Hp)(x:V):List Int:=((Qeb H x).getD []).map λy=>match y with
 |.int i=>i
 |_=>0
def IntsT(H:Hp)(x:V)(ns:List Int):Prop:=∃a,x=.ref a/\H a=some (.tup (ns.map V.int))
theorem IntsT.eq{H:Hp}{x:V}{ns:List Int}(h:IntsT H x ns):QnB H x=ns:=by
 obtain⟨a,rfl,e⟩:=h;unfold QnB;rw[QeY e];show(ns.map V.int).map _=ns;rw[Je];exact Qb8 _
theorem JC:bootBuiltins "isinstance" = some (.builtin "isinstance"):=by decide +kernel
theorem QdT:bootBuiltins "int" = some (.type "int"):=by decide +kernel
theorem Qc6:bootBuiltins "bool" = some (.type "bool"):=by decide +kernel
theorem YY:bootBuiltins "tuple" = some (.type "tuple"):=by decide +kernel
theorem QkN:bootBuiltins "list" = some (.type "list"):=by decide +kernel
theorem QnM:bootBuiltins "str" = some (.type "str"):=by decide +kernel
theorem Qhm:bootBuiltins "all" = some (.builtin "all"):=by decide +kernel
theorem YQ:bootBuiltins "len" = some (.builtin "len"):=by decide +kernel
theorem QdS:bootBuiltins "max" = some (.builtin "max"):=by decide +kernel
theorem Qhl:bootBuiltins "min" = some (.builtin "min"):=by decide +kernel
end Rk
namespace L2
theorem QcO{J:It}{body:V->Hp->(Hp->Prop)->Prop}{Qn:Hp->Prop}{H:Hp}(n:Nat)(Pv:Nat->Hp->Prop)(h0:Pv 0 H)
  (hs:∀i H2,i<n->Pv i H2->J.go i H2/\∀x H3,J.yld i H2 x H3->∀k:Hp->Prop,(∀H6,Pv (i+1) H6->k H6)->body x H3 k)(hd:∀H2,Pv n H2->J.stop n H2/\Qn H2):QhD J body Qn H:=by
 refine⟨λi m H=>m=n - i/\i<=n/\Pv i H,⟨n,by simp,Jn _,h0⟩,?_⟩;rintro i m H2 ⟨rfl,hi,p⟩;by_cases hlt:i<n
 ·obtain⟨go,st⟩:=hs i H2 hlt p;exact .inr ⟨go,λx H3 y=>st x H3 y _ λH6 p6=>⟨n - (i+1),by omega,rfl,hlt,p6⟩⟩
 ·have e:i=n:=by omega
  subst e;exact .inl (hd H2 p)
theorem QdO{J:It}{σ:St}{g:TG}{te:TE}{p:Addr}{H1:Hp}{Qn:Hp->Prop}(n:Nat)(hn:n<sizeLine)(F:Nat->Bool)(hp:H1 p=none)
  (hs:∀i H2,i<n->Same H1 H2->J.go i H2/\∀x H3,J.yld i H2 x H3->∀k:VK,(∀H6,Same H2 H6->k (.bl (F i)) H6)->g x σ H3 λσ4 H4=>Wk σ σ4/\te σ4 H4 k)
  (hst:∀H2,Same H1 H2->J.stop n H2)(hq:∀H2,Same H1 H2->H2 p=some (.lst (((JN n).map F).map V.bl))->Qn H2) :
  QhD J (bOf σ g QfN (Qp7 p te)) Qn (upd H1 p (.lst [])):=by
 refine QcO n (λi H2=>Same H1 H2/\H2 p=some (.lst (((JN i).map F).map V.bl))) ⟨Js hp,Q8⟩ (λi H2 hi ⟨s2,e2⟩=>?_) λH2 ⟨s2,e2⟩=>⟨hst H2 s2,hq H2 s2 e2⟩
 obtain⟨go,st⟩:=hs i H2 hi s2;refine⟨go,λx H3 y k hk=>?_⟩;refine st x H3 y (λv H6=>∃ys,H6 p=some (.lst ys)/\ys.length<sizeLine/\k (upd H6 p (.lst (ys++[v])))) λH6 s6=>?_
 have e6:=s6 p _ e2;refine⟨_,e6,?_,hk _ ⟨λb o e=>?_,?_⟩⟩
 ·rw[Qe,Qe,Jc];omega
 ·have hb:b≠p:=JA e hp;rw[Q5 hb];exact s6 b o (s2 b o e)
 ·rw[Q8,QpY,Jf,Jf];rfl
end L2
namespace Rk
open L2
def Qbn(K:PySem.W.Frag):Sp:=λvs H Q _=>∃a ns k,vs=[.ref a,.int k]/\SqL K H a ((ns:List Int).map V.int)/\ns.length<2^20/\0<=k/\∀c,Q (.int c) H
def Qru:Sp:=λvs H Q _=>∃c,vs=[.int c]/\∀p n,H p=none->Q (.ref p) (upd H p (.lst [.int n]))
def Cs(p:Addr)(H:Hp):List V->List (Int×Int)->Prop:=YR λx ij=>∃d,d≠p/\x=.ref d/\H d=some (.tup [.int ij.1,.int ij.2])
theorem Cs.mem{p:Addr}{H:Hp}:∀{ps:List V}{L:List (Int×Int)},Cs p H ps L->∀x∈ps,∃ij∈L,∃d,d≠p/\x=.ref d/\H d=some (.tup [.int ij.1,.int ij.2])
 |_,_,.nil,x,h=>nomatch h
 |_,_,.cons r t,x,h=>by
  rcases Qy.mp h with e | e
  ·subst e;exact⟨_,JM,r⟩
  ·obtain⟨ij,m,q⟩:=Cs.mem t x e;exact⟨ij,Jj _ m,q⟩
def Qtg(a b:Int×Int):Prop:=a.1<b.1∨(a.1=b.1/\a.2<b.2)
structure Good (h w:Int) (L:List (Int×Int)):Prop where
 asc:L.Pairwise Qtg
 ins:∀x∈L,0<=x.1/\x.1<h/\0<=x.2/\x.2<w
 len:L.length<=36
theorem Qhc(x:Int){m:Int}(h:0<m):0<=x % m/\x % m<m:=⟨Int.emod_nonneg _ (by omega),Int.emod_lt_of_pos _ h⟩
def notStar:QM->Bool
 |.Starred _ _=>false
 |_=>true
theorem Z5{e:QM}{es:List QM}{env:Env}(h:notStar e=true):starEach (e::es) env=(false,eval e env)::starEach es env:=by
 cases e<;>first | rfl | cases h
section
variable{X:Cx}
theorem QfJ{e:QM}{es:List QM}{te:TE}{t:TA}(ha:PE X e te)(hr:PA X es t)(hs:notStar e=true:=by rfl):PA X (e::es) (QeZ te t):=Jl ha hr (Z5 hs)
end
def Sm(H:Hp)(x:V):Prop:=∀ps,Qeb H x=some ps->ps.length<sizeLine
def Part(p:Addr)(H:Hp)(x:V):Prop:=KnD p 2 H x/\Sm H x
def Thing(p:Addr)(H:Hp)(x:V):Prop:=KnD p 3 H x/\Sm H x/\∀xs,Qeb H x=some xs->∀y∈xs,Sm H y
theorem Qrk{H:Hp}{a:Addr}{xs ys:List V}(e:H a=some (.tup xs))(z:Qeb H (.ref a)=some ys):ys=xs:=by
 rw[QeY e] at z;cases z;rfl
theorem Part.tup{p:Addr}{H:Hp}{a:Addr}{xs:List V}(hp:a≠p)(e:H a=some (.tup xs))(hl:xs.length<sizeLine)(h:∀y∈xs,KnD p 1 H y):Part p H (.ref a):=
 ⟨KnD.tup hp e h,λps z=>by rw[Qrk e z];exact hl⟩
theorem Thing.part{p:Addr}{H:Hp}{x:V}(h:Thing p H x):Part p H x:=⟨h.1.low,h.2.1⟩
theorem QsS{P:V->Prop}:∀y∈([]:List V),P y:=λ_ h=>nomatch h
theorem Qkg{P:V->Prop}{a:V}{l:List V}(h:P a)(k:∀y∈l,P y):∀y∈a::l,P y:=λy hy=>by
 rcases Qy.mp hy with e | e
 ·subst e;exact h
 ·exact k y e
theorem Cs.kn{p:Addr}{H:Hp}{ps:List V}{L:List (Int×Int)}(h:Cs p H ps L):∀x∈ps,KnD p 1 H x:=λx hx=>by
 obtain⟨ij,_,d,n,rfl,e⟩:=h.mem x hx;exact KnD.tup n e (Qkg (KnD.int _ 0) (Qkg (KnD.int _ 0) QsS))
theorem Cs.part{p:Addr}{H:Hp}{c:Addr}{ps:List V}{L:List (Int×Int)}(n:c≠p)(e:H c=some (.tup ps))(hl:ps.length<sizeLine)(h:Cs p H ps L):Part p H (.ref c):=Part.tup n e hl h.kn
theorem QaM{n:Nat}(h:n<=1000):n<sizeLine:=Yv h (by decide)
def Fine(p:Addr):Nat->Hp->V->Prop
 |0,H,x=>Kn p H x/\Sm H x
 |n+1,H,x=>Kn p H x/\Sm H x/\∀xs,Qeb H x=some xs->∀y∈xs,Fine p n H y
theorem Fine.kn{p:Addr}{H:Hp}{x:V}:∀{n:Nat},Fine p n H x->Kn p H x
 |0,h=>h.1
 |_+1,h=>h.1
theorem Fine.sm{p:Addr}{H:Hp}{x:V}:∀{n:Nat},Fine p n H x->Sm H x
 |0,h=>h.2
 |_+1,h=>h.2.1
theorem Fine.knd{p:Addr}{H:Hp}:∀{n:Nat}{x:V},Fine p n H x->KnD p n H x
 |0,_,h=>h.1
 |_+1,_,h=>⟨h.1,λxs e y hy=>(h.2.2 xs e y hy).knd⟩
theorem Fine.thing{p:Addr}{H:Hp}{x:V}(h:∀n,Fine p n H x):Thing p H x:=⟨(h 3).knd,(h 0).2,λxs e y hy=>((h 1).2.2 xs e y hy).2⟩
section
variable{X:Cx}
end
def Qt6(t:TA):TE:=λσ H Q=>t σ H λxs H1=>xs.length<=1000/\∀a H2,Same H1 H2->H1 a=none->H2 a=some (.tup xs)->Q (.ref a) H2
def Qua(t:TA):TE:=λσ H Q=>t σ H λxs H1=>xs.length<=1000/\∀a H2,Same H1 H2->H1 a=none->H2 a=some (.lst xs)->Q (.ref a) H2
section
variable{X:Cx}
theorem Qoy{es:List QM}{t:TA}{x1}{pos:Pos}(h:PA X es t):PE X (.Tuple es x1 pos) (Qt6 t):=by
 intro pins s σ H Q I hq;refine wpAny_Tuple_spliced (thn (h pos pins s σ H _ I hq) λus s1 ⟨xs,H1,I1,r,z,q⟩=>⟨by rw[<- r.length];exact Zs (QaM z),?_⟩);have hf:H1 s1.heap.objs.size=none:=I1.hok.fresh (Qk _);refine⟨.ref s1.heap.objs.size,upd H1 s1.heap.objs.size (.tup xs),I1.laid (t':=s1.toks) (λb u e=>Qd _ e) (Qk _) ?_,rfl,q _ _ (Js hf) hf Q8⟩;exact⟨Zs (QaM z),us,r,⟨_,Qp _ rfl,rfl,rfl,_,rfl⟩⟩
theorem Qoz{es:List QM}{t:TA}{pos:Pos}(h:PA X es t):PE X (.List es pos) (Qua t):=by
 intro pins s σ H Q I hq;refine Qth (thn (h pos pins s σ H _ I hq) λus s1 ⟨xs,H1,I1,r,z,q⟩=>⟨by rw[<- r.length];exact Zs (QaM z),?_⟩);have hf:H1 s1.heap.objs.size=none:=I1.hok.fresh (Qk _);refine⟨.ref s1.heap.objs.size,upd H1 s1.heap.objs.size (.lst xs),I1.laid (t':=s1.toks) (λb u e=>Qd _ e) (Qk _) ?_,rfl,q _ _ (Js hf) hf Q8⟩;exact⟨Zs (QaM z),us,0,r,Qp _ rfl⟩
end
def FineA(p:Addr)(H:Hp)(x:V):Prop:=∀n,Fine p n H x
theorem FineA.thing{p:Addr}{H:Hp}{x:V}(h:FineA p H x):Thing p H x:=Fine.thing h
theorem FineA.part{p:Addr}{H:Hp}{x:V}(h:FineA p H x):Part p H x:=(Fine.thing h).part
end Rk
namespace Rx
open PySem.Calls L2 PySem.W Builtin Builtin.ObjectAttr Builtin.Getset_descriptor
def ExAt(a C:Addr)(h:JU):Prop:=∃o vs,h.get? a=some o/\o.cls=.ref C/\o.data=.fields vs
theorem ExAt.ty{M:Model}{h:JU}{a C:Addr}(x:ExAt a C h):Looks M h (typeOf (.ref a)) (.ref C):=by
 obtain⟨o,vs,e,c,_⟩:=x;exact c ▸ (Looks.ld e).andThen .now
section
variable{prog:QF}{w:Q9}{A:Q6}{E:Value->Shared->Prop}{s:Shared}{K:PySem.W.Frag}{a C:Addr}
end
end Rx
namespace Rx
open PySem.Calls L2
section
variable{X:Cx}{E:XK}{C:Addr}{x:Str}{e0:QM}{te:TE}{np cpos pos:Pos}
end
section
variable{X:Cx}{pins:List (Addr×Obj)}{σ:L2.St}{H:Hp}{s:Shared}
end
def XP(X:Cx)(pins:List (Addr×Obj))(Ex:L2.St->Addr->Hp->Prop)(e:Value)(s1:Shared):Prop:=
 ∃(σ:L2.St)(C:Addr)(H':Hp)(a t:Addr)(B:JU),e=.ref a/\Heap.FlyingW B X.stack a (.ref C) (.ref t) s1.heap/\H' a=none/\X.s₀.heap.get? a=none/\(∀p∈X.pn++pins,p.1≠a) /\
  (∀(h2:JU)(tk:Nat),B.StaysIn h2->s1.heap.UpToSlots h2->Inv X pins σ H' { s1 with heap:=h2,toks:=tk })/\Ex σ C H'
section
variable{X:Cx}{k:Nat}{f:Addr}{fd:QB}{ps:List Str}{sp:Sp}{x:Str}{p pos:Pos}{e:QM}{es:List QM}{t:TA}
end
section
variable{X:Cx}{R:Addr}{i:Nat}{n r:Str}{call hx:QM}{tc:TX}{th:TE}{rp np hp hpos pos:Pos}
end
section
variable{P:QF}{w:Q9}{K:PySem.W.Frag}{mg:Str->Option Value}{base:JU}
end
section
variable{X:Cx}{k:Nat}{f:Addr}{fd:QB}{ps:List Str}{sp:Sp}{x:Str}{p pos:Pos}{e:QM}{es:List QM}{t:TA}
end
section
variable{X:Cx}
theorem bools_eq{bs:List Bool}{us:List Value}(r:Vals (bs.map V.bl) us):us=bs.map Yl:=by
 induction bs generalizing us with
 |nil=>cases r;rfl
 |cons b bs ih=>
  cases r with
  |cons r t=>
   cases(show _=Yl b from r);rw[ih t];rfl
end
end Rx
namespace Rd
open L2
mutual
inductive Dat (H:Hp):V->Qa->Prop
 |non:Dat H .non .none
 |bl (b:Bool):Dat H (.bl b) (.bool b)
 |int (i:Int):Dat H (.int i) (.int i)
 |str (x:Str):Qbl (.str x)=true->Dat H (.str x) (.str x)
 |tup {a:Addr} {xs:List V} {ds:List Qa}:H a=some (.tup xs)->Dats H xs ds->Dat H (.ref a) (.tuple ds)
 |lst {a:Addr} {xs:List V} {ds:List Qa}:H a=some (.lst xs)->Dats H xs ds->Dat H (.ref a) (.list ds)
inductive Dats (H:Hp):List V->List Qa->Prop
 |nil:Dats H [] []
 |cons {x:V} {xs:List V} {d:Qa} {ds:List Qa}:Dat H x d->Dats H xs ds->Dats H (x::xs) (d::ds)
end
mutual
theorem Yk{P:QF}{w:Q9}{H:Hp}{h:JU}(ok:HOk P w H h):∀(d:Qa)(x:V)(v:Value),Dat H x d->RelV x v->(∃as,Qip h v d as)/\d.canLay0=true
 |.none,_,v,.non,r=>by cases r;exact⟨⟨_,.none⟩,rfl⟩
 |.bool b,_,v,.bl _,r=>by cases r;exact⟨⟨_,.bool b⟩,rfl⟩
 |.int i,_,v,.int _,r=>by obtain⟨t,rfl⟩:=r;exact⟨⟨_,.int i t⟩,rfl⟩
 |.str z,_,v,.str _ c,r=>by obtain⟨t,rfl⟩:=r;exact⟨⟨_,.str z t⟩,c⟩
 |.tuple ds,_,v,.tup (a:=a) (xs:=xs) e q,r=>by
  cases r;obtain⟨_,its,rv,o,ho,hc,_,n,hd⟩:=ok a _ e;obtain⟨⟨as,ra⟩,cl⟩:=Y7 ok ds xs its q rv;exact⟨⟨as,.tuple ho hc hd ra⟩,cl⟩
 |.list ds,_,v,.lst (a:=a) (xs:=xs) e q,r=>by
  cases r;obtain⟨_,its,n,rv,ho⟩:=ok a _ e;obtain⟨⟨as,ra⟩,cl⟩:=Y7 ok ds xs its q rv;exact⟨⟨a::as,.list ho rfl rfl ra⟩,cl⟩
 |.dict _,_,_,q,_=>nomatch q
theorem Y7{P:QF}{w:Q9}{H:Hp}{h:JU}(ok:HOk P w H h):∀(ds:List Qa)(xs:List V)(vs:List Value),Dats H xs ds->Vals xs vs->(∃as,Qcl h vs ds as)/\Jz ds=true
 |[],_,vs,.nil,r=>by cases r;exact⟨⟨_,.nil⟩,rfl⟩
 |d::ds,_,vs,.cons (x:=x) (xs:=xs) q qs,r=>by
  cases r with
  |cons r rs=>
   obtain⟨⟨a1,r1⟩,c1⟩:=Yk ok d x _ q r;obtain⟨⟨a2,r2⟩,c2⟩:=Y7 ok ds xs _ qs rs;exact⟨⟨_,.cons r1 r2⟩,by simp[Jz,c1,c2]⟩
end
mutual
theorem Qhd{H H':Hp}(s:Same H H'):∀(d:Qa)(x:V),Dat H x d->Dat H' x d
 |.none,_,.non=>.non
 |.bool _,_,.bl _=>.bl _
 |.int _,_,.int _=>.int _
 |.str _,_,.str _ c=>.str _ c
 |.tuple ds,_,.tup (xs:=xs) e q=>.tup (s _ _ e) (Qc0 s ds xs q)
 |.list ds,_,.lst (xs:=xs) e q=>.lst (s _ _ e) (Qc0 s ds xs q)
 |.dict _,_,q=>nomatch q
theorem Qc0{H H':Hp}(s:Same H H'):∀(ds:List Qa)(xs:List V),Dats H xs ds->Dats H' xs ds
 |[],_,.nil=>.nil
 |d::ds,_,.cons (x:=x) (xs:=xs) q qs=>.cons (Qhd s d x q) (Qc0 s ds xs qs)
end
theorem Dat.same{H H':Hp}{x:V}{d:Qa}(q:Dat H x d)(s:Same H H'):Dat H' x d:=Qhd s d x q
theorem Dats.length{H:Hp}:∀{xs:List V}{ds:List Qa},Dats H xs ds->xs.length=ds.length
 |_,_,.nil=>rfl
 |_,_,.cons _ q=>by rw[QK,QK,q.length]
theorem Dats.get{H:Hp}:∀{xs:List V}{ds:List Qa},Dats H xs ds->∀(i:Nat)(x:V),xs[i]? = some x->∃d,ds[i]? = some d/\Dat H x d
 |_,_,.nil,i,x,e=>by simp at e
 |_,_,.cons q qs,0,x,e=>by simp at e;subst e;exact⟨_,rfl,q⟩
 |_,_,.cons q qs,i+1,x,e=>qs.get i x (by simpa using e)
section
variable{X:Cx}
def QvR(X:Cx):R2:=λx y H Q=>∃dx dy,Dat H x dx/\Dat H y dy/\X.A.units+min dx.depth dy.depth<cLine/\Q (.bl (Jh dx dy)) H
theorem Qsl:OpR X (compareOp .Eq) (QvR X):=by
 intro pins s σ H x y v u Q I rx ry h;obtain⟨dx,dy,qx,qy,hu,q⟩:=h;obtain⟨⟨as,ra⟩,ca⟩:=Yk I.hok dx x v qx rx;obtain⟨⟨bs,rb⟩,cb⟩:=Yk I.hok dy y u qy ry;exact SeqAt.compareEq_reads ra rb ca cb hu ⟨.bl _,H,I,rfl,q⟩
open Classical in
noncomputable def eqH (h:JU) (d:Qa) (y:Value):Bool:=decide (∃e as,Qip h y e as/\e.canLay0=true/\Jh e d=true)
open Classical in
theorem QuO{h:JU}{d:Qa}{y:Value}(q:∃e as,Qip h y e as/\e.canLay0=true/\Jh e d=true):eqH h d y=true:=by
 unfold eqH;exact decide_eq_true q
open Classical in
theorem QuP{h:JU}{d:Qa}{y:Value}(q:¬ ∃e as,Qip h y e as/\e.canLay0=true/\Jh e d=true):eqH h d y=false:=by
 unfold eqH;exact decide_eq_false q
theorem QnF{h:JU}{d e:Qa}{y:Value}{as:List Addr}(r:Qip h y e as)(c:e.canLay0=true):eqH h d y=Jh e d:=by
 cases q:Jh e d with
 |true=>exact QuO ⟨e,as,r,c,q⟩
 |false=>
  refine QuP λ⟨e',as',r',c',q'⟩=>?_
  rw[<- SeqAt.Reads.unique e e' y as as' c r r',q] at q';cases q'
theorem Qgq{h:JU}{d:Qa}:∀{vs:List Value}{ds:List Qa}{as:List Addr},Qcl h vs ds as->Jz ds=true->vs.any (eqH h d)=ds.any λe=>Jh e d
 |_,_,_,.nil,_=>rfl
 |_,_,_,.cons r rs,c=>by
  simp only[Jz,Jk] at c;rw[Yu,Yu,QnF r c.1,Qgq rs c.2]
theorem Qf6{A:Q6}{s:Shared}{d:Qa}{v:Value}{bs:List Addr}(rv:Qip s.heap v d bs)(cv:d.canLay0=true):∀{vs:List Value}{ds:List Qa}{as:List Addr},Qcl s.heap vs ds as->Jz ds=true->A.units+d.depth<cLine ->
  ∀u∈vs,SeqAt.EqAt A s u v (eqH s.heap d u)
 |_,_,_,.nil,_,_=>λu hu=>nomatch hu
 |_,_,_,.cons (d:=e) r rs,c,hu=>λu hm=>by
  simp only[Jz,Jk] at c;rcases Qy.mp hm with z | z
  ·subst z;rw[QnF r c.1];exact Qm0 e d A s _ v _ bs r rv c.1 cv (Yv (Nat.add_le_add_left (Qd4 _ _) _) hu)
  ·exact Qf6 rv cv rs c.2 hu u z
def QvQ(X:Cx)(neg:Bool):R2:=λx y H Q=>∃c ps ds d,y=.ref c/\H c=some (.tup ps)/\Dats H ps ds/\Dat H x d/\X.A.in1.units+d.depth<cLine/\Q (.bl (if neg then !(ds.any λe=>Jh e d) else ds.any λe=>Jh e d)) H
theorem Qjs:OpR X (compareOp .NotIn) (QvQ X true):=by
 intro pins s σ H x y v u Q I rx ry h;obtain⟨c,ps,ds,d,rfl,hc,qs,qx,hu,q⟩:=h;cases ry;obtain⟨⟨as,ra⟩,ca⟩:=Yk I.hok d x v qx rx;obtain⟨_,its,rv,tp⟩:=I.hok c _ hc;have tp:=TupN.tup tp;obtain⟨⟨bs,rb⟩,cb⟩:=Y7 I.hok ds ps its qs rv;refine SeqAt.notIn_tupleAt (eqH s.heap d) tp (λw hw=>Qf6 ra ca rb cb hu w (QnY.mp hw)) ⟨.bl _,H,I,rfl,?_⟩;rw[show its.toArray.any (eqH s.heap d)=its.any (eqH s.heap d) by simp,Qgq rb cb];exact q
end
section
variable{X:Cx}
end
end Rd
namespace L2
def Ite(l:Addr):It:=
 ⟨λi H=>∃xs x,H l=some (.lst xs)/\xs[i]? = some x,
  λi H v H'=>∃p x,H p=none/\(∀xs,H l=some (.lst xs)->xs[i]? = some x)/\v=.ref p/\H'=upd H p (.tup [.int (i:Nat),x]),
  λi H=>∃xs,H l=some (.lst xs)/\xs.length<=i⟩
theorem QiD{P:QF}{w:Q9}{K:PySem.W.Frag}{elts:List QM}{x1}{tpos:Pos}{e it l:Addr}(hne:e≠it) :
  Turn P w K (.Tuple elts x1 tpos) (Ite l) [e,it] e (λi h=>(∃old,IsEnum h e it (i:Nat) old)/\h.IsListIter it l i) where
 mem:=by simp
 obj:=λi h st b hb=>by
  obtain⟨⟨old,a1⟩,⟨o2,a2,_,d2⟩⟩:=st;simp only[Qy,QX,or_false] at hb;rcases hb with rfl | rfl
  ·exact⟨_,a1,λv q=>nomatch q⟩
  ·exact⟨_,a2,λv q=>by rw[d2] at q;cases q⟩
 keep:=λi h h' st k=>by
  obtain⟨⟨old,a1⟩,⟨o2,a2,c2⟩⟩:=st;exact⟨⟨old,k e (by simp) _ a1⟩,o2,k it (by simp) _ a2,c2⟩
 item:=by
  intro X hP hw hK hc i pins s σ H E I hf st hg;subst hP hw hK;obtain⟨xs,x,h1,hx⟩:=hg;obtain⟨⟨old,a1⟩,a2⟩:=st;obtain⟨its,r1,p1,_⟩:=I.list (SqL.of h1);obtain⟨u,hu,ru⟩:=r1.get hx;refine wpAny_pyNext_enum_item a1 a2 p1.isList (x:=u) (by simpa using hu) hne λh' o' l' tp sz kp=>?_
  have fr:H s.heap.objs.size=none:=I.hok.fresh (Qk _);have n1:e≠s.heap.objs.size:=Qu (Qi a1);have n2:it≠s.heap.objs.size:=by
   obtain⟨o2,a2,_⟩:=a2;exact Qu (Qi a2)
  refine⟨_,rfl,Qh9 o' λh2 e2 s2=>?_⟩;have I1:Inv X pins σ (upd H s.heap.objs.size (.tup [.int (i:Nat),x])) { s with heap:=h2,toks:=s.toks+1 }:=by
   refine I.turnedNew (ch:=[e,it]) hf (λb v hb q=>?_) (Qk _) ⟨by show 2<=sizeLine;decide,[.int (i:Nat) s.toks,u],.cons ⟨_,rfl⟩ (.cons ru .nil),?_⟩
   ·simp only[Qy,QX,or_false,not_or] at hb;exact s2.extBut _ _ hb.1 (kp b v hb.1 hb.2 q)
   ·exact⟨_,s2.extBut _ _ n1.symm tp,rfl,rfl,0,rfl⟩
  refine⟨.ref s.heap.objs.size,_,I1,rfl,⟨_,x,fr,λxs' q=>?_,rfl,rfl⟩,⟨⟨u,e2⟩,?_⟩,λb hb=>?_⟩
  ·rw[h1] at q;cases q;exact hx
  ·exact l'.extBut s2.extBut hne.symm
  ·simp only[Qy,QX,or_false] at hb;rcases hb with rfl | rfl
   ·rw[Q5 n1];exact(hf _ (by simp)).1
   ·rw[Q5 n2];exact(hf _ (by simp)).1
 done:=by
  intro X hP hw hK hc i pins s σ H E I hf st hg;subst hP hw hK;obtain⟨xs,h1,he⟩:=hg;obtain⟨⟨old,a1⟩,a2⟩:=st;obtain⟨its,r1,p1,_⟩:=I.list (SqL.of h1);have l1:=r1.length;refine wpAny_pyNext_enum_end (I.ok.hd hc) a1 a2 p1.isList (by simp;omega) λh' kp=>⟨rfl,I.turnedAll (t':=s.toks) (ch:=[e,it]) hf λb v hb q=>?_⟩
  simp only[Qy,QX,or_false,not_or] at hb;exact kp b v hb.2 q
 self:=λ_ _ _ _ _ st h=>by
  obtain⟨⟨old,a1⟩,_⟩:=st;exact Qa7 a1 h
def QuJ(ta:TA):TI:=λσ H R=>ta σ H λvs H1=>∃l xs,vs=[.ref l]/\H1 l=some (.lst xs)/\R (Ite l) H1
theorem Qfv:bootBuiltins "enumerate" = some (.type "enumerate"):=by decide +kernel
section
variable{X:Cx}
theorem Qox{a:QM}{elts:List QM}{x1}{tpos:Pos}{ta:TA}{p pos:Pos}(hg:Gl X "enumerate")(hm:X.mg "enumerate" = none)(ha:PA X [a] ta)(hs:starEach [a] X.env=[(false,eval a X.env)]:=by rfl) :
  PI X (.Tuple elts x1 tpos) (.Call (.Name "enumerate" p) [a] [] pos) (QuJ ta):=by
 intro pins s σ H R I h;refine Call_ (Qbw I hg hm Qfv (JG (thn (ha pos pins s σ H _ I h) λus s1 ⟨vs,H1,I1,r1,q1⟩=>?_) hs rfl));obtain⟨l,xs,e,h1,q⟩:=q1;subst e;obtain⟨u,rfl,ru⟩:=vals1 r1;cases(show u=Za l from ru);obtain⟨its,w1,p1,_⟩:=I1.list (SqL.of h1);refine call_enumerate_list p1.isList λh' e1 i1 sz kp=>?_
 refine Qa7 (s:={ s1 with heap:=h' }) e1 ?_
 refine⟨s1.heap.objs.size+1,_,_,_,H1,rfl,I1.kept (t':=s1.toks) kp,QiD (by show ¬(s1.heap.objs.size+1=s1.heap.objs.size);omega),⟨⟨_,e1⟩,i1⟩,λb hb=>?_,q⟩;have hb':s1.heap.objs.size<=b:=by
  simp only[Qy,QX,or_false] at hb;rcases hb with rfl | rfl<;>omega
 exact I1.fpOk hb' (I1.hok.fresh hb')
end
section
variable{prog:QF}{w:Q9}{A:Q6}{R:Qk0->Shared->Prop}{s:Shared}
theorem Qe2{elt tg iter:QM}{ifs:List QM}{g0:Qd5}{scope:Z3}{pos:Pos}{it acc:Value}{env:Env}
  (h0:codeAny (model prog w) A (.compLoop (.ListComp elt [g0,⟨tg,iter,ifs,0⟩] scope pos) 1 it acc env) R s)
  (h:wpAny (model prog w) A (pyIter it) (λit' s'=>codeAny (model prog w) A (.compLoop (.ListComp elt [g0,⟨tg,iter,ifs,0⟩] scope pos) 1 it' acc env) R s') (notedBy (model prog w) A env λx s'=>R (.error x) s') s) :
  codeAny (model prog w) A (.compStart (.ListComp elt [g0,⟨tg,iter,ifs,0⟩] scope pos) 1 it acc env) R s:=by
 refine codeAny_of_tree ?_
 show wpAny _ _ ((compStart (.ListComp elt [g0,⟨tg,iter,ifs,0⟩] scope pos) 1 it acc env).onRaise (λx=>do noteFrame x env;standAt theWindowsPlace)) _ _ s;refine wpAny_notedAt ?_
 unfold compStart;show wpAny _ _ (ask >>= _) _ _ s;refine wpAny_bind (wpAny_askSetting (wpAny_ite ?_));split
 ·first
   |exact wpAny_bind (Qh (Qh ⟨rfl,h0⟩))
   |exact Qh ⟨rfl,h0⟩
 ·first
   |exact wpAny_bind (wpAny_rule (wpAny_bind (wpAny_standAt (wpAny_bind (wpAny_mono h (λit' s' h'=>Qh ⟨rfl,h'⟩) λ_ _ x=>x)))))
   |exact wpAny_bind (wpAny_rule (wpAny_bind (wpAny_standAt (wpAny_bind (wpAny_mono h (λit' s' h'=>Qh (Qh ⟨rfl,h'⟩)) λ_ _ x=>x)))))
end
theorem QiB{Y:Cx}{elt tg iter:QM}{ifs:List QM}{g0:Qd5}{scope:Z3}{cpos:Pos}{it D:Addr}(Q:PySem.Fin->Shared->Prop)(E:Value->Shared->Prop)(s:Shared)
  (h:wpAny (model Y.prog Y.w) Y.A (pyNext (.ref it)) (λr s1=>match r with
   |none=>Q (.done .next) s1
   |some v=>wpAny (model Y.prog Y.w) Y.A (letOwnedTupleGo tg (.ref it) v) (λ_ s2=>QmW Y tg ifs (QkX Y elt D) v (λs3=>Q (.again (.compLoop (.ListComp elt [g0,⟨tg,iter,ifs,0⟩] scope cpos) 1 (.ref it) (.ref D) Y.env)) s3) s2) E s1) E s) :
  wpAny (model Y.prog Y.w) Y.A (compTurn (.ListComp elt [g0,⟨tg,iter,ifs,0⟩] scope cpos) 1 (.ref it) (.ref D) Y.env) Q E s:=by
 have e:compTurn (.ListComp elt [g0,⟨tg,iter,ifs,0⟩] scope cpos) 1 (.ref it) (.ref D) Y.env=(do
   standAt iter.pos
   match <- pyNext (.ref it) with
   |none=>pure (.done .next)
   |some v=>
    letOwnedTupleGo tg (.ref it) v
    assign tg Y.env v
    let mut ok:=true
    for c in ifs do
     if ok then ok <- isTrue c Y.env (eval c Y.env)
    if ok then
     (do let _ <- call (.builtin "list.append") [.ref D,<- eval elt Y.env])
    again (.compLoop (.ListComp elt [g0,⟨tg,iter,ifs,0⟩] scope cpos) 1 (.ref it) (.ref D) Y.env)):=by rfl
 rw[e];refine wpAny_bind (wpAny_standAt (wpAny_bind (thn h λr s1 h1=>?_)));cases r with
 |none=>exact Qh h1
 |some v=>
  refine wpAny_bind (thn h1 λ_ s2 h2=>?_);refine wpAny_bind (wpAny_mono h2 (λ_ s4 h4=>wpAny_bind (wpAny_mono h4 (λok s5 h5=>?_) λ_ _ f=>f.elim)) λ_ _ f=>f.elim);cases ok with
  |false=>exact Qh h5
  |true=>exact wpAny_bind (wpAny_bind (wpAny_mono h5 (λx s6 h6=>wpAny_bind (wpAny_mono h6 (λ_ s7 h7=>Qh (Qh h7)) λ_ _ f=>f.elim)) λ_ _ f=>f.elim))
def QkW(Y:Cx)(e:QM)(iter:QM)(D:Addr):Act:=λQ s=>wpAny (model Y.prog Y.w) Y.A (eval iter Y.env) (λx s1=>wpAny (model Y.prog Y.w) Y.A (pyIter x)
 (λitv s2=>codeAny (model Y.prog Y.w) Y.A (.compStart e 1 itv (.ref D) Y.env) (λr s3=>match r with | .ok _=>Q s3 | .error _=>False) s2) (λ_ _=>False) s1) (λ_ _=>False) s
def Qtb(wi:TI)(g:TG)(tc:TT)(p:Addr)(te:TE):St->Hp->(Hp->Prop)->Prop:=λσ H k=>wi σ H λJ H1=>QhD J (bOf σ g tc (Qp7 p te)) k H1
theorem QkQ{Y:Cx}{σ:St}{elt tg iter:QM}{ifs:List QM}{g0:Qd5}{scope:Z3}{cpos:Pos}{D:Addr}{wi:TI}{g:TG}{tc:TT}{te:TE}(hx:Y.xe=λ_ _=>False)(hc:Y.calm=true)
  (hi:PI Y tg iter wi)(hg:PG Y tg g)(ht:PTs Y ifs tc)(he:PE Y elt te):BodyOk Y σ (QkW Y (.ListComp elt [g0,⟨tg,iter,ifs,0⟩] scope cpos) iter D) (Qtb wi g tc D te σ):=by
 intro pins s H k Q I h hQ;have hx':∀(v:Value)(s':Shared),Y.xe v s'->False:=λv s' z=>by rw[hx] at z;exact z
 refine wpAny_mono (hi pins s σ H _ I h) (λv s1 h1=>wpAny_mono h1 (λitv s2 h2=>?_) hx') hx';obtain⟨it,fp,tn,J,H2,e,I2,T,st2,f2,hW⟩:=h2;subst e;have loop:codeAny (model Y.prog Y.w) Y.A (.compLoop (.ListComp elt [g0,⟨tg,iter,ifs,0⟩] scope cpos) 1 (.ref it) (.ref D) Y.env) (λr s3=>match r with | .ok _=>Q s3 | .error _=>False) s2:=
  Qbx (Y:=Y) (gens:=[g0,⟨tg,iter,ifs,0⟩]) (d:=1) hc T st2 f2 (λQ E s h=>QiB Q E s h) (λx u r=>QeE hx hg ht (λσ4=>QeF hx he) x u r) I2 hW λs' H' I' q=>hQ s' H' I' q
 exact Qe2 loop (T.self _ 0 _ _ _ st2 loop)
theorem QhB{Y:Cx}{elt tg iter tg2 iter2:QM}{ifs ifs2:List QM}{scope:Z3}{cpos:Pos}{it D:Addr}(hs:∀x,foldedSetIterable iter2 Y.env x=pure x)(Q:PySem.Fin->Shared->Prop)(E:Value->Shared->Prop)(s:Shared)
  (h:wpAny (model Y.prog Y.w) Y.A (pyNext (.ref it)) (λr s1=>match r with
   |none=>Q (.done .next) s1
   |some v=>wpAny (model Y.prog Y.w) Y.A (letOwnedTupleGo tg (.ref it) v) (λ_ s2=>QmW Y tg ifs (QkW Y (.ListComp elt [⟨tg,iter,ifs,0⟩,⟨tg2,iter2,ifs2,0⟩] scope cpos) iter2 D) v (λs3=>Q (.again (.compLoop (.ListComp elt [⟨tg,iter,ifs,0⟩,⟨tg2,iter2,ifs2,0⟩] scope cpos) 0 (.ref it) (.ref D) Y.env)) s3) s2) E s1) E s) :
  wpAny (model Y.prog Y.w) Y.A (compTurn (.ListComp elt [⟨tg,iter,ifs,0⟩,⟨tg2,iter2,ifs2,0⟩] scope cpos) 0 (.ref it) (.ref D) Y.env) Q E s:=by
 have e:compTurn (.ListComp elt [⟨tg,iter,ifs,0⟩,⟨tg2,iter2,ifs2,0⟩] scope cpos) 0 (.ref it) (.ref D) Y.env=(do
   standAt iter.pos
   match <- pyNext (.ref it) with
   |none=>pure (.done .next)
   |some v=>
    letOwnedTupleGo tg (.ref it) v
    assign tg Y.env v
    let mut ok:=true
    for c in ifs do
     if ok then ok <- isTrue c Y.env (eval c Y.env)
    if ok then
     let x <- eval iter2 Y.env
     standAt iter2.pos
     let x <- foldedSetIterable iter2 Y.env x
     let _ <- runOwn (.compStart (.ListComp elt [⟨tg,iter,ifs,0⟩,⟨tg2,iter2,ifs2,0⟩] scope cpos) 1 (<- holding [x] (pyIter x)) (.ref D) Y.env) Y.env
    again (.compLoop (.ListComp elt [⟨tg,iter,ifs,0⟩,⟨tg2,iter2,ifs2,0⟩] scope cpos) 0 (.ref it) (.ref D) Y.env)):=by rfl
 rw[e];refine wpAny_bind (wpAny_standAt (wpAny_bind (thn h λr s1 h1=>?_)));cases r with
 |none=>exact Qh h1
 |some v=>
  refine wpAny_bind (thn h1 λ_ s2 h2=>?_);refine wpAny_bind (wpAny_mono h2 (λ_ s4 h4=>wpAny_bind (wpAny_mono h4 (λok s5 h5=>?_) λ_ _ f=>f.elim)) λ_ _ f=>f.elim);cases ok with
  |false=>exact Qh h5
  |true=>
   refine wpAny_bind (wpAny_mono h5 (λx s6 h6=>wpAny_bind (wpAny_standAt ?_)) λ_ _ f=>f.elim);rw[hs x];refine wpAny_bind (Qh (wpAny_bind (JQ (wpAny_mono h6 (λitv s7 h7=>?_) λ_ _ f=>f.elim))));refine wpAny_bind (wpAny_runOwn (h:=none) (Qch h7 λr s8 h8=>?_));cases r with
   |error z=>exact h8.elim
   |ok fl=>exact Qh h8
def Qnc(cap:List (Option Nat))(wi:TI)(g:TG)(tc:TT)(wi2:TI)(g2:TG)(tc2:TT)(te:TE):TE:=λσ H Q=>wi σ H λJ H1=>∀p,H1 p=none->QhD J (bOf (Qb7 cap σ) g tc (Qtb wi2 g2 tc2 p te)) (Q (.ref p)) (upd H1 p (.lst []))
end L2
namespace Rk
open L2 Rd
def pairD(ij:Int×Int):Qa:=.tuple [.int ij.1,.int ij.2]
end Rk
namespace Rr
section
variable{prog:QF}{w:Q9}{A:Q6}{E:Value->Shared->Prop}{s:Shared}
end
end Rr
namespace L2
section
variable{X:Cx}
end
end L2
namespace Rs
open PySem.W
def sp{α:Type}(n:Nat)(c:Nat->Nat->Bool):KasT α->(α->Prop)->Prop
 |.ret a,Q=>Q a
 |.ask i j f,Q=>i<n/\j<n/\sp n c (f (c i j)) Q
section
variable{n:Nat}{K:Nat->Int}
structure Good (n:Nat) (p:Array Nat):Prop where
 perm:p.toList.Perm (JN n)
theorem Good.size{p:Array Nat}(g:Good n p):p.size=n:=by
 have:=g.perm.length_eq;rw[Jc,Zz] at this;exact this
def at_(p:Array Nat)(i:Nat):Nat:=p.getD i 0
theorem QkT{p:Array Nat}{i:Nat}(h:i<p.size):p[i]? = some (at_ p i):=by
 unfold at_;rw[Qd8,Qaf h];rfl
theorem Good.lt{p:Array Nat}(g:Good n p)(h0:0<n)(i:Nat):at_ p i<n:=by
 by_cases h:i<p.size
 ·have e:=QkT h;have m:at_ p i∈p.toList:=by
   have:=Array.mem_of_getElem? e;exact Qik.mpr this
  exact JX.mp (g.perm.mem_iff.mp m)
 ·unfold at_;rw[Qd8,Array.getElem?_eq_none (by omega)];exact h0
theorem Good.inj{p:Array Nat}(g:Good n p){i j:Nat}(hi:i<n)(hj:j<n)(e:at_ p i=at_ p j):i=j:=by
 have nd:p.toList.Nodup:=g.perm.nodup_iff.mpr List.nodup_range;have hs:=g.size;have hi':i<p.toList.length:=by rw[Zz];omega
 have hj':j<p.toList.length:=by rw[Zz];omega
 have ei:p.toList[i]=at_ p i:=by
  have:=QkT (p:=p) (i:=i) (by omega);rw[Qaf (by omega)] at this;rw[Qil];exact Qq this
 have ej:p.toList[j]=at_ p j:=by
  have:=QkT (p:=p) (i:=j) (by omega);rw[Qaf (by omega)] at this;rw[Qil];exact Qq this
 have pw:=QfE.mp nd;rcases QnW i j with h | h | h
 ·exact absurd (ei.trans (e.trans ej.symm)) (pw i j hi' hj' h)
 ·exact h
 ·exact absurd (ej.trans (e.symm.trans ei.symm)) (pw j i hj' hi' h)
def kk(K:Nat->Int)(p:Array Nat)(i:Nat):Int:=K (at_ p i)
end
end Rs
namespace Rs
open PySem.W PySem.Calls
section
variable{prog:QF}{w:Q9}{A:Q6}{E:Value->Shared->Prop}{s:Shared}
theorem Qcc{Q:Value->Shared->Prop}{l:Addr}{T:String}{o:Obj}{vs:List Value}{n:Nat}(hT:T = "list" ∨ T = "tuple")(ho:s.heap.get? l=some o)(hc:o.cls=.type T)(hd:o.data=.seq vs.toArray n)(h64:vs.length<64)
  (h:∀h':JU,(∀b x,s.heap.get? b=some x->h'.get? b=some x)->∀(P:PySem.Fin->Shared->Prop)(E':Value->Shared->Prop),(∀s2,Q (.ref h'.objs.size) s2->P (.done (.ret .none)) s2) ->
   wpAny (model prog w) A.in1.in1 (Qhx.«list.sort» ⟨[.ref h'.objs.size],[]⟩) P E' { s with heap:=h'.push (seqObj "list" vs.toArray 0) }) :
  wpAny (model prog w) A (call (.builtin "sorted") [.ref l]) Q E s:=by
 refine Calls.call_function_entry kind_sorted plain_sorted entry_sorted (args_sorted1 _) ?_
 unfold Qhx.«sorted»;refine wpAny_bind (m:=checkCount "sorted" 1 1 _) (Qh ?_);refine wpAny_bind (wpAny_collect_seq (items:=vs.toArray) l hT ho hc hd (λh' kp=>?_) (by rw[Qm,Qhq];omega));refine wpAny_bind (wpAny_newList ?_ (by rw[List.toList_toArray,Qhq];omega));have hoL:(h'.push (seqObj "list" vs.toArray 0)).get? h'.objs.size=some (seqObj "list" vs.toArray 0):=Qp _ rfl;show wpAny _ _ _ _ _ { s with heap:=h'.push (seqObj "list" vs.toArray 0) };refine wpAny_bind (JQ (ZS slot_list_sort ⟨_,hoL,rfl⟩ entry_list_sort ?body (args_list_sort _)));exact h h' kp _ _ λs2 hq=>⟨_,rfl,Qh ⟨_,rfl,hq⟩⟩
end
structure Qtf (h:JU) (v:Value) (ij:Int×Int):Prop where
 it:∃(a:Addr)(o:Obj)(n:Nat)(t u:Tok),v=.ref a/\h.get? a=some o/\o.cls=.type "tuple" /\ o.data=.seq #[.int ij.1 t,.int ij.2 u] n
inductive PairsV (h:JU):List Value->List (Int×Int)->Prop
 |nil:PairsV h [] []
 |cons {v:Value} {vs:List Value} {ij:Int×Int} {L:List (Int×Int)}:Qtf h v ij->PairsV h vs L->PairsV h (v::vs) (ij::L)
theorem PairsV.at_{h:JU}:∀{vs:List Value}{L:List (Int×Int)},PairsV h vs L->∀i,i<vs.length->Qtf h (vs.getD i Yy) (L.getD i (0,0))
 |_,_,.nil,i,hi=>by simp at hi
 |_,_,.cons q r,0,hi=>q
 |_,_,.cons q r,i+1,hi=>by
  have:=r.at_ i (by simpa using hi)
  simpa using this
section
variable{prog:QF}{w:Q9}{A:Q6}{E:Value->Shared->Prop}{s:Shared}
end
end Rs
namespace L2
open _root_.Rd _root_.Rk _root_.Rs
section
variable{X:Cx}
theorem Qev:∀{ns:List Int}{vs:List Value},Vals (ns.map V.int) vs->YH vs ns
 |[],_,.nil=>.nil
 |i::ns,_,.cons ⟨t,e⟩ r=>by subst e;exact .cons _ _ (Qev r)
theorem QeG:∀{ns:List Int}{vs:List Value},YH vs ns->Vals (ns.map V.int) vs
 |_,_,.nil=>.nil
 |_,_,.cons n t r=>.cons ⟨t,rfl⟩ (QeG r)
def Qnj(K:PySem.W.Frag):List V->Hp->VK->Prop:=λxs H Q=>∃l ns,xs=[.ref l]/\SqT K H l ((ns:List Int).map V.int)/\ns.length<64 /\
 ∀t ms H2,Same H H2->H t=none->H2 t=some (.lst ((ms:List Int).map V.int))->ms.Perm ns->ms.Pairwise (·<=·)->Q (.ref t) H2
theorem Qh3:CallR X (.builtin "sorted") (Qnj X.K):=by
 intro pins s σ H xs us Q I r h;obtain⟨l,ns,rfl,hl,h64,q⟩:=h;obtain⟨u,rfl,ru⟩:=vals1 r;cases ru;obtain⟨its,rv,tp,hz⟩:=I.tuple hl;obtain⟨o,ho,hc,n,hd⟩:=tp;have li:=rv.length;rw[Qe] at li;refine Qcc (.inr rfl) ho hc hd (by omega) λh' kp P E' hP=>?_
 have hn:(h'.push (seqObj "list" its.toArray 0)).get? h'.objs.size=some (seqObj "list" its.toArray 0):=Qp _ rfl;refine list_sort_tree (s:={ s with heap:=h'.push (seqObj "list" its.toArray 0) }) hn (Qev rv) (by omega) λout ns' ia pm pw=>hP _ ?_
 have I1:Inv X pins σ H { s with heap:=h' }:=I.kept (t':=s.toks) kp;have hf:H h'.objs.size=none:=I1.hok.fresh (Qk _);obtain⟨e,he⟩:∃e,(sortedHeap (h'.push (seqObj "list" its.toArray 0)) h'.objs.size its out).get? h'.objs.size=some (seqObj "list" out e):=sortedHeap_at hn
 have rv':=QeG ia;have lp:=pm.length_eq;have I2:Inv X pins σ (upd H h'.objs.size (.lst (ns'.map V.int))) { s with heap:=sortedHeap (h'.push (seqObj "list" its.toArray 0)) h'.objs.size its out }:=
  I1.laid (t':=s.toks) (λb x e'=>(sortedHeap_old (Qu (Qi e')) (QH (Qi e') (by rw[size_push'];exact Nat.le_succ _))).trans (Qd _ e')) (Qk _) (show ObjOk X.prog X.w _ _ _ (.lst _) from⟨by rw[Qe];exact Zs (Rk.QaM (by omega)),out.toList,e,rv',by rw[he]⟩)
 exact⟨.ref h'.objs.size,_,I2,rfl,q _ ns' _ (Js hf) hf Q8 pm pw⟩
end
end L2
namespace Re
open AutoSeq1 (wpAny_loadPart')
theorem QnH{prog:QF}{w:Q9}{A:Q6}{it t:Addr}{items:Array Value}(hh:A.handled=none)(hti:t≠it) :
  Draws prog w A it [it,t] items.size (λi x=>items[i]? = some x) (λi h=>h.IsTupleIter it t i/\h.IsTuple t items) where
 live:=λi h st=>by
  obtain⟨⟨o,ho,_⟩,_⟩:=st;exact⟨o,ho⟩
 frame:=λi h h' st k=>by
  obtain⟨⟨o,ho,c⟩,⟨o2,h2,c2⟩⟩:=st;exact⟨⟨o,k it (by simp) _ ho,c⟩,⟨o2,k t (by simp) _ h2,c2⟩⟩
 item:=λi s Q E hi st hQ=>by
  refine Rz.Qcs st.1 st.2 (x:=items[i]) (by simp[hi]) λh' hit' hs'=>?_
  refine hQ _ h' s.toks (by simp[hi]) ⟨hit',?_⟩ hs';obtain⟨o2,h2,c2⟩:=st.2;exact⟨o2,(hs'.2 t hti).trans h2,c2⟩
 done:=λs Q E st hE=>Rz.Qf3 hh st.1 st.2 (by simp) hE
theorem QhT(l:Addr)(items:Array Value)(n:Nat)(dct:Option Addr)(sl:Array (Option Value)) :
  Meets (Qhx.«enumerate.__new__» ⟨[.type "enumerate",.ref l],[]⟩) (λ_ R s=>s.heap.get? l=some { cls:=.type "tuple",dict:=dct,data:=.seq items n,slots:=sl } /\
   R (.ok (.ret (.ref (s.heap.push { cls:=.type "tuple_iterator",data:=.fields #[.ref l,.int 0 0] }).objs.size)))
    { s with heap:=(s.heap.push { cls:=.type "tuple_iterator",data:=.fields #[.ref l,.int 0 0] }).push { cls:=.type "enumerate",data:=.fields #[.none,.bool false,.ref s.heap.objs.size,rawInt 0,.none,.none] } }):=
 .of_wp λprog w A R s h=>by
  obtain⟨hp,g,d,tk,os⟩:=s;obtain⟨hl,h⟩:=h;have hsub:=sub_enumerate;have hL:Qij (Qib ⟨hp,g,d,tk,os⟩) l items:=⟨_,hl,rfl,n,rfl⟩
  wp_walk using ZG hl
  refine wpAny_stack_any λst=>Qh ?_
  split
  ·rename_i c _ _ _ _ _
   cases(c == Qk8 "enumerate")
   ·wp_walk using ZG hl,Zu hL
    exact⟨_,rfl,h⟩
   ·wp_walk using ZG hl,Zu hL
    exact⟨_,rfl,h⟩
  ·wp_walk using ZG hl,Zu hL
   exact⟨_,rfl,h⟩
theorem Qh4{prog:QF}{w:Q9}{A:Q6}{E:Value->Shared->Prop}{s:Shared}{l:Addr}{items:Array Value}{Q:Value->Shared->Prop}(hL:s.heap.IsTuple l items)
  (h:∀h',IsEnum h' (s.heap.objs.size+1) s.heap.objs.size 0 .none->h'.IsTupleIter s.heap.objs.size l 0->(∀b o,s.heap.get? b=some o->h'.get? b=some o)->Q (.ref (s.heap.objs.size+1)) { s with heap:=h' }) :
  wpAny (model prog w) A (call (.type "enumerate") [.ref l]) Q E s:=by
 obtain⟨⟨c,dct,dt,sl⟩,hl,hc,n,hd⟩:=hL
 replace hc:c=.type "tuple" := hc
 replace hd:dt=.seq items n:=hd
 subst hc hd;refine callType_new F.called_enumerate (by decide) (F.typeCall_enumerate_1 _) (F.newCall_enumerate_1 _) (λobj=>F.args_object_init_2 obj _) F.entry_enumerate_new (QhT l items n dct sl) ⟨hl,?_⟩;have hz:(s.heap.push { cls:=.type "tuple_iterator",data:=.fields #[.ref l,.int 0 0] }).objs.size=s.heap.objs.size+1:=Zh ..;show _/\_;rw[hz];have he:=Qp (s.heap.push { cls:=.type "tuple_iterator",data:=.fields #[.ref l,.int 0 0] }) (o:={ cls:=.type "enumerate",data:=.fields #[.none,.bool false,.ref s.heap.objs.size,rawInt 0,.none,.none] }) rfl;rw[hz] at he;exact⟨⟨_,he,rfl⟩,h _ he ⟨_,Qd _ (Qp _ rfl),rfl,rfl⟩ λb o x=>Qd _ (Qd _ x)⟩
end Re
namespace L2
def Iet(l:Addr):It:=
 ⟨λi H=>∃xs x,H l=some (.tup xs)/\xs[i]? = some x,
  λi H v H'=>∃p x,H p=none/\(∀xs,H l=some (.tup xs)->xs[i]? = some x)/\v=.ref p/\H'=upd H p (.tup [.int (i:Nat),x]),
  λi H=>∃xs,H l=some (.tup xs)/\xs.length=i⟩
theorem QhC{P:QF}{w:Q9}{K:PySem.W.Frag}{elts:List QM}{x1}{tpos:Pos}{e it l:Addr}(hne:e≠it) :
  Turn P w K (.Tuple elts x1 tpos) (Iet l) [e,it] e (λi h=>(∃old,IsEnum h e it (i:Nat) old)/\h.IsTupleIter it l i) where
 mem:=by simp
 obj:=λi h st b hb=>by
  obtain⟨⟨old,a1⟩,⟨o2,a2,_,d2⟩⟩:=st;simp only[Qy,QX,or_false] at hb;rcases hb with rfl | rfl
  ·exact⟨_,a1,λv q=>nomatch q⟩
  ·exact⟨_,a2,λv q=>by rw[d2] at q;cases q⟩
 keep:=λi h h' st k=>by
  obtain⟨⟨old,a1⟩,⟨o2,a2,c2⟩⟩:=st;exact⟨⟨old,k e (by simp) _ a1⟩,o2,k it (by simp) _ a2,c2⟩
 item:=by
  intro X hP hw hK hc i pins s σ H E I hf st hg;subst hP hw hK;obtain⟨xs,x,h1,hx⟩:=hg;obtain⟨⟨old,a1⟩,a2⟩:=st;obtain⟨its,r1,p1,_⟩:=I.tuple (SqT.of h1);obtain⟨u,hu,ru⟩:=r1.get hx;have nel:e≠l:=λz=>by have q:=(hf e (by simp)).1;rw[z,h1] at q;cases q
  have nil:l≠it:=λz=>by have q:=(hf it (by simp)).1;rw[<- z,h1] at q;cases q
  have hi:i<its.toArray.size:=by
   have:=(Qr.mp hu).1
   simpa using this
  refine wpAny_pyNext_enum_itemD (Re.QnH (A:=X.A.in1) (t:=l) (I.ok.hd hc) nil) a1 ⟨a2,p1⟩ hi hne (by simp[hne,nel]) λy h' tk hy o' l' tp sz kp=>?_
  have ey:y=u:=by
   have e1:its.toArray[i]? = some u:=by simpa using hu
   rw[e1] at hy;exact(Qq hy).symm
  subst ey;obtain⟨l',tq⟩:=l';have fr:H s.heap.objs.size=none:=I.hok.fresh (Qk _);have n1:e≠s.heap.objs.size:=Qu (Qi a1);have n2:it≠s.heap.objs.size:=by
   obtain⟨o2,a2,_⟩:=a2;exact Qu (Qi a2)
  refine⟨_,rfl,Qh9 o' λh2 e2 s2=>?_⟩;have I1:Inv X pins σ (upd H s.heap.objs.size (.tup [.int (i:Nat),x])) { s with heap:=h2,toks:=tk+1 }:=by
   refine I.turnedNew (ch:=[e,it]) hf (λb v hb q=>?_) (Qk _) ⟨by show 2<=sizeLine;decide,[.int (i:Nat) tk,y],.cons ⟨_,rfl⟩ (.cons ru .nil),?_⟩
   ·simp only[Qy,QX,or_false,not_or] at hb;exact s2.extBut _ _ hb.1 (kp b v hb.1 hb.2 q)
   ·exact⟨_,s2.extBut _ _ n1.symm tp,rfl,rfl,0,rfl⟩
  refine⟨.ref s.heap.objs.size,_,I1,rfl,⟨_,x,fr,λxs' q=>?_,rfl,rfl⟩,⟨⟨y,e2⟩,?_⟩,λb hb=>?_⟩
  ·rw[h1] at q;cases q;exact hx
  ·exact l'.extBut s2.extBut hne.symm
  ·simp only[Qy,QX,or_false] at hb;rcases hb with rfl | rfl
   ·rw[Q5 n1];exact(hf _ (by simp)).1
   ·rw[Q5 n2];exact(hf _ (by simp)).1
 done:=by
  intro X hP hw hK hc i pins s σ H E I hf st hg;subst hP hw hK;obtain⟨xs,h1,he⟩:=hg;obtain⟨⟨old,a1⟩,a2⟩:=st;obtain⟨its,r1,p1,_⟩:=I.tuple (SqT.of h1);have l1:=r1.length;have nel:e≠l:=λz=>by have q:=(hf e (by simp)).1;rw[z,h1] at q;cases q
  have nil:l≠it:=λz=>by have q:=(hf it (by simp)).1;rw[<- z,h1] at q;cases q
  have e0:its.toArray.size=i:=by rw[Qm];omega
  have D:=Re.QnH (prog:=X.prog) (w:=X.w) (A:=X.A.in1) (t:=l) (items:=its.toArray) (I.ok.hd hc) nil;rw[e0] at D;refine wpAny_pyNext_enum_endD D a1 ⟨a2,p1⟩ λh' kp=>⟨rfl,I.turnedAll (t':=s.toks) (ch:=[e,it]) hf λb v hb q=>?_⟩
  simp only[Qy,QX,or_false,not_or] at hb;exact kp b v hb.2 q
 self:=λ_ _ _ _ _ st h=>by
  obtain⟨⟨old,a1⟩,_⟩:=st;exact Qa7 a1 h
def QsQ(ta:TA):TI:=λσ H R=>ta σ H λvs H1=>∃l xs,vs=[.ref l]/\H1 l=some (.tup xs)/\R (Iet l) H1
section
variable{X:Cx}
theorem QlP{a:QM}{elts:List QM}{x1}{tpos:Pos}{ta:TA}{p pos:Pos}(hg:Gl X "enumerate")(hm:X.mg "enumerate" = none)(ha:PA X [a] ta)(hs:starEach [a] X.env=[(false,eval a X.env)]:=by rfl) :
  PI X (.Tuple elts x1 tpos) (.Call (.Name "enumerate" p) [a] [] pos) (QsQ ta):=by
 intro pins s σ H R I h;refine Call_ (Qbw I hg hm Qfv (JG (thn (ha pos pins s σ H _ I h) λus s1 ⟨vs,H1,I1,r1,q1⟩=>?_) hs rfl));obtain⟨l,xs,e,h1,q⟩:=q1;subst e;obtain⟨u,rfl,ru⟩:=vals1 r1;cases(show u=Za l from ru);obtain⟨its,w1,p1,_⟩:=I1.tuple (SqT.of h1);refine Re.Qh4 p1 λh' e1 i1 kp=>?_
 refine Qa7 (s:={ s1 with heap:=h' }) e1 ?_
 refine⟨s1.heap.objs.size+1,_,_,_,H1,rfl,I1.kept (t':=s1.toks) kp,QhC (by show ¬(s1.heap.objs.size+1=s1.heap.objs.size);omega),⟨⟨_,e1⟩,i1⟩,λb hb=>?_,q⟩;have hb':s1.heap.objs.size<=b:=by
  simp only[Qy,QX,or_false] at hb;rcases hb with rfl | rfl<;>omega
 exact I1.fpOk hb' (I1.hok.fresh hb')
end
end L2
namespace Rk
open L2
end Rk
namespace L2
section
variable{X:Cx}{pins:List (Addr×Obj)}{σ:St}{H:Hp}
theorem Qa2{M:List Str}{scope:Z3}{fp:List Addr}{σ':St}{H3:Hp}{s3 s':Shared}{D:Addr}{i:Nat}{y:Str}{py:Pos}{Mo:Model}{A:Q6}{E:Value->Shared->Prop}{Q:Value->Shared->Prop}
  (I3:Inv X pins σ H3 s3)(f3:∀b∈fp,FpOk X pins H3 b)(J:Inv (blk X M scope (QaX X.env scope.names []) fp s3 H3 s3.heap.objs.size) [] σ' H s')
  (hN:X.N.Nodup)(hi:X.N[i]? = some y)(hl:X.env.scope.names.lookup y=some .local)(hq:∀s2,Inv X pins (σ.set i (some (.ref D))) H s2->Q .none s2) :
  wpAny Mo A (assign (.Name y py) X.env (.ref D)) (λ_ s2=>∃m,s2.heap.Ns s3.heap.objs.size m/\∀h',Qbi s3.heap.objs.size s2.heap h'->Q .none { s2 with heap:=h' }) E s':=by
 have J0:Inv X pins σ H s':=QkR I3 f3 J (Heap.SameBut.refl ..);obtain⟨m,hn,_⟩:=J.loc;have hC:H s3.heap.objs.size=none:=J.free;have lt:X.env.locals<s3.heap.objs.size:=I3.lt;refine QtG (Qe1 J0 hN hi (QZ hl) (show RelV (.ref D) (.ref D) from rfl) (λs2 J2 ⟨a,sb,ha⟩=>?_) (.inr hl));have ea:a=X.env.locals∨X.env.cells.lookup y=some a:=ha;have na:s3.heap.objs.size≠a:=by
  rcases ea with z | z
  ·rw[z];exact Qbm lt
  ·obtain⟨v,o,ho,_⟩:=I3.cell y a z;exact Qbm (Qi ho)
 refine⟨m,hn.sameBut sb na,λh' hs=>hq _ ?_⟩;refine J2.turned (t':=s2.toks) (it:=s3.heap.objs.size) (λb o hb e=>hs.extBut b o hb e) hC (Qbm lt) (.inr I3.sz) (λx c e z=>?_) λp hp z=>?_
 ·obtain⟨v,o,ho,_⟩:=I3.cell x c e;exact absurd (z ▸ Qi ho) (Z4 _)
 ·have e:=(I3.pin p hp).1;exact absurd (z ▸ Qi e) (Z4 _)
end
theorem QlN{X:Cx}{M:List Str}{cap:List (Option Nat)}{elt tg iter:QM}{ifs:List QM}{scope:Z3}{pos:Pos}{wi:TI}{g:TG}{tc:TT}{te:TE}{i:Nat}{y:Str}{py spos:Pos}(hN:X.N.Nodup)(hiy:X.N[i]? = some y)(hly:X.env.scope.names.lookup y=some .local)(hc:X.calm=true)(ok:Qdk X.N X.env.scope M scope cap=true)
  (hi:PI X tg iter wi)(hb:∀cl ex s3 H3 C,PG (blk X M scope cl ex s3 H3 C) tg g/\PTs (blk X M scope cl ex s3 H3 C) ifs tc/\PE (blk X M scope cl ex s3 H3 C) elt te)
  (hs:∀x,foldedSetIterable iter X.env x=pure x:=by intro _;rfl)(hsw:swapsWith (.ListComp elt [⟨tg,iter,ifs,0⟩] scope pos) (some (.Name y py)) spos.line X.env=pure true:=by rfl):PS X (.Assign [.Name y py] (.ListComp elt [⟨tg,iter,ifs,0⟩] scope pos) spos) (Qnd (tComp cap wi g tc te) (QcT i)):=by
 intro pins s σ H D I h;have c:=CapOk.of ok;rw[QnR _ _ _ _ hsw];refine wpAny_bind (wpAny_standAt (wpAny_bind ?_));show wpAny _ X.A (do let _ <- comprehension (.ListComp elt [⟨tg,iter,ifs,0⟩] scope pos) scope X.env _ (newList []) false (eval iter X.env) (some (assign (.Name y py) X.env))) _ _ s;refine wpAny_bind (wpAny_mono (Qa8 (use:=some (assign (.Name y py) X.env)) (Q:=λ_ s'=>SP X pins D .next s') rfl hs (Qgi (I.ok.cells c)) c.kind c.loc ?_) (λ_ s' hq=>Qh (Qh hq)) λ_ _ e=>e);refine thn (hi pins s σ H _ I h) λv s1 h1=>thn h1 λitv s2 h2=>?_
 obtain⟨it,fp,tn,J,H2,e,I2,T,st2,f2,hW⟩:=h2;subst e;refine JB (Y9 c.cell (by intro y hy;simp at hy) (λh₁ hns₁ hsb₁=>?_) c.kind);have I3:Inv X pins σ (upd H2 s2.heap.objs.size (.lst [])) { s2 with heap:=s2.heap.push { cls:=.type "list",data:=.seq ([]:List Value).toArray } }:=I2.lnew (t':=s2.toks) (ys:=[]) .nil (Jn _);have lt2:∀b∈fp,b<s2.heap.objs.size:=λb hb=>by obtain⟨o,e,_⟩:=T.obj _ _ st2 b hb;exact Qi e
 have f3:∀b∈fp,FpOk X pins (upd H2 s2.heap.objs.size (.lst [])) b:=λb hb=>(f2 b hb).upd (Qu (lt2 b hb))
 generalize hs3:({ s2 with heap:=s2.heap.push { cls:=.type "list",data:=.seq ([]:List Value).toArray } }:Shared)=s3 at I3;have e3:s3.heap=s2.heap.push { cls:=.type "list",data:=.seq ([]:List Value).toArray }:=by rw[<- hs3]
 have z3:s3.heap.objs.size=s2.heap.objs.size+1:=by rw[e3,Zh]
 have hk:∀b o,s3.heap.get? b=some o->h₁.get? b=some o:=λb o e=>hsb₁.extBut b o (by
  have:=Qi e;rw[e3] at this;exact Qu this) (Qd _ (e3 ▸ e))
 have hn₁:h₁.Ns s3.heap.objs.size λ_=>none:=by rw[e3];exact hns₁
 have B:=Qc7 (t4:=s3.toks+([]:List (Str×Value)).length) (fp:=fp) I3 c f3 (λb hb=>by rw[z3];exact QaD (lt2 b hb)) hn₁ hk;have st4:tn 0 h₁:=T.keep _ _ _ st2 λb hb o e=>hk b o (by rw[e3];exact Qd _ e)
 have fp4:∀b∈fp,FpOk (blk X M scope (QaX X.env scope.names []) fp s3 (upd H2 s2.heap.objs.size (.lst [])) s3.heap.objs.size) [] (upd H2 s2.heap.objs.size (.lst [])) b:=λb hb=>by
  refine⟨(f3 b hb).1,(B.ok.exf b hb).1,B.ok.exfs b hb,.inl hb,(B.ok.exf b hb).2,λp hp=>(nomatch hp)⟩
 obtain⟨hg,ht,he⟩:=hb (QaX X.env scope.names []) fp s3 (upd H2 s2.heap.objs.size (.lst [])) s3.heap.objs.size;have loop:codeAny (model X.prog X.w) X.A (.compLoop (.ListComp elt [⟨tg,iter,ifs,0⟩] scope pos) 0 (.ref it) (.ref s2.heap.objs.size) (compEnvC scope (QaX X.env scope.names []) s3.heap.objs.size X.env))
   (compPost (model X.prog X.w) X.A X.xe (some (assign (.Name y py) X.env)) (λ_ s'=>SP X pins D .next s') (.ref s2.heap.objs.size) s3.heap.objs.size) { s3 with heap:=h₁,toks:=s3.toks+([]:List (Str×Value)).length }:=by
  refine Qbx (Y:=blk X M scope (QaX X.env scope.names []) fp s3 (upd H2 s2.heap.objs.size (.lst [])) s3.heap.objs.size) (gens:=[⟨tg,iter,ifs,0⟩]) (d:=0) hc T st4 fp4
   (λQ E s h=>Qgz Q E s h) (λx u r=>QeE rfl hg ht (λσ4=>QeF rfl he) x u r) B (hW _ (I2.hok.fresh (Qk _))) λs' H' I' q=>?_
  exact Qa2 (Q:=λ_ s'=>SP X pins D .next s') I3 f3 I' hN hiy hly λs2' J2=>⟨_,H',J2,q⟩
 exact QbG loop (T.self _ 0 _ _ _ st4 loop)
theorem Qe9{X:Cx}{M:List Str}{cap:List (Option Nat)}{elt tg iter tg2 iter2:QM}{ifs ifs2:List QM}{scope:Z3}{pos:Pos}{wi wi2:TI}{g g2:TG}{tc tc2:TT}{te:TE}{i:Nat}{y:Str}{py spos:Pos}(hN:X.N.Nodup)(hiy:X.N[i]? = some y)(hly:X.env.scope.names.lookup y=some .local)(hc:X.calm=true)(ok:Qdk X.N X.env.scope M scope cap=true)
  (hi:PI X tg iter wi)(hb:∀cl ex s3 H3 C,PG (blk X M scope cl ex s3 H3 C) tg g/\PTs (blk X M scope cl ex s3 H3 C) ifs tc/\PI (blk X M scope cl ex s3 H3 C) tg2 iter2 wi2/\PG (blk X M scope cl ex s3 H3 C) tg2 g2/\PTs (blk X M scope cl ex s3 H3 C) ifs2 tc2/\PE (blk X M scope cl ex s3 H3 C) elt te)
  (hs:∀x,foldedSetIterable iter X.env x=pure x:=by intro _;rfl)(hs2:∀env x,foldedSetIterable iter2 env x=pure x:=by intro _ _;rfl)(hsw:swapsWith (.ListComp elt [⟨tg,iter,ifs,0⟩,⟨tg2,iter2,ifs2,0⟩] scope pos) (some (.Name y py)) spos.line X.env=pure true:=by rfl):PS X (.Assign [.Name y py] (.ListComp elt [⟨tg,iter,ifs,0⟩,⟨tg2,iter2,ifs2,0⟩] scope pos) spos) (Qnd (Qnc cap wi g tc wi2 g2 tc2 te) (QcT i)):=by
 intro pins s σ H D I h;have c:=CapOk.of ok;rw[QnR _ _ _ _ hsw];refine wpAny_bind (wpAny_standAt (wpAny_bind ?_));show wpAny _ X.A (do let _ <- comprehension (.ListComp elt [⟨tg,iter,ifs,0⟩,⟨tg2,iter2,ifs2,0⟩] scope pos) scope X.env _ (newList []) false (eval iter X.env) (some (assign (.Name y py) X.env))) _ _ s;refine wpAny_bind (wpAny_mono (Qa8 (use:=some (assign (.Name y py) X.env)) (Q:=λ_ s'=>SP X pins D .next s') rfl hs (Qgi (I.ok.cells c)) c.kind c.loc ?_) (λ_ s' hq=>Qh (Qh hq)) λ_ _ e=>e);refine thn (hi pins s σ H _ I h) λv s1 h1=>thn h1 λitv s2 h2=>?_
 obtain⟨it,fp,tn,J,H2,e,I2,T,st2,f2,hW⟩:=h2;subst e;refine JB (Y9 c.cell (by intro y hy;simp at hy) (λh₁ hns₁ hsb₁=>?_) c.kind);have I3:Inv X pins σ (upd H2 s2.heap.objs.size (.lst [])) { s2 with heap:=s2.heap.push { cls:=.type "list",data:=.seq ([]:List Value).toArray } }:=I2.lnew (t':=s2.toks) (ys:=[]) .nil (Jn _);have lt2:∀b∈fp,b<s2.heap.objs.size:=λb hb=>by obtain⟨o,e,_⟩:=T.obj _ _ st2 b hb;exact Qi e
 have f3:∀b∈fp,FpOk X pins (upd H2 s2.heap.objs.size (.lst [])) b:=λb hb=>(f2 b hb).upd (Qu (lt2 b hb))
 generalize hs3:({ s2 with heap:=s2.heap.push { cls:=.type "list",data:=.seq ([]:List Value).toArray } }:Shared)=s3 at I3;have e3:s3.heap=s2.heap.push { cls:=.type "list",data:=.seq ([]:List Value).toArray }:=by rw[<- hs3]
 have z3:s3.heap.objs.size=s2.heap.objs.size+1:=by rw[e3,Zh]
 have hk:∀b o,s3.heap.get? b=some o->h₁.get? b=some o:=λb o e=>hsb₁.extBut b o (by
  have:=Qi e;rw[e3] at this;exact Qu this) (Qd _ (e3 ▸ e))
 have hn₁:h₁.Ns s3.heap.objs.size λ_=>none:=by rw[e3];exact hns₁
 have B:=Qc7 (t4:=s3.toks+([]:List (Str×Value)).length) (fp:=fp) I3 c f3 (λb hb=>by rw[z3];exact QaD (lt2 b hb)) hn₁ hk;have st4:tn 0 h₁:=T.keep _ _ _ st2 λb hb o e=>hk b o (by rw[e3];exact Qd _ e)
 have fp4:∀b∈fp,FpOk (blk X M scope (QaX X.env scope.names []) fp s3 (upd H2 s2.heap.objs.size (.lst [])) s3.heap.objs.size) [] (upd H2 s2.heap.objs.size (.lst [])) b:=λb hb=>by
  refine⟨(f3 b hb).1,(B.ok.exf b hb).1,B.ok.exfs b hb,.inl hb,(B.ok.exf b hb).2,λp hp=>(nomatch hp)⟩
 obtain⟨hg,ht,hi2,hg2,ht2,he⟩:=hb (QaX X.env scope.names []) fp s3 (upd H2 s2.heap.objs.size (.lst [])) s3.heap.objs.size;have loop:codeAny (model X.prog X.w) X.A (.compLoop (.ListComp elt [⟨tg,iter,ifs,0⟩,⟨tg2,iter2,ifs2,0⟩] scope pos) 0 (.ref it) (.ref s2.heap.objs.size) (compEnvC scope (QaX X.env scope.names []) s3.heap.objs.size X.env))
   (compPost (model X.prog X.w) X.A X.xe (some (assign (.Name y py) X.env)) (λ_ s'=>SP X pins D .next s') (.ref s2.heap.objs.size) s3.heap.objs.size) { s3 with heap:=h₁,toks:=s3.toks+([]:List (Str×Value)).length }:=by
  refine Qbx (Y:=blk X M scope (QaX X.env scope.names []) fp s3 (upd H2 s2.heap.objs.size (.lst [])) s3.heap.objs.size) (gens:=[⟨tg,iter,ifs,0⟩,⟨tg2,iter2,ifs2,0⟩]) (d:=0) hc T st4 fp4
   (λQ E s h=>QhB (hs2 _) Q E s h) (λx u r=>QeE rfl hg ht (λσ4=>QkQ rfl hc hi2 hg2 ht2 he) x u r) B (hW _ (I2.hok.fresh (Qk _))) λs' H' I' q=>?_
  exact Qa2 (Q:=λ_ s'=>SP X pins D .next s') I3 f3 I' hN hiy hly λs2' J2=>⟨_,H',J2,q⟩
 exact QbG loop (T.self _ 0 _ _ _ st4 loop)
end L2
namespace Rk
open L2 _root_.Rd
section
variable{X:Cx}
def QvP(X:Cx):R2:=λx y H Q=>∃dx dy,Dat H x dx/\Dat H y dy/\X.A.units+min dx.depth dy.depth<cLine/\Q (.bl (!Jh dx dy)) H
theorem Qsi:OpR X (compareOp .NotEq) (QvP X):=by
 intro pins s σ H x y v u Q I rx ry h;obtain⟨dx,dy,qx,qy,hu,q⟩:=h;obtain⟨⟨as,ra⟩,ca⟩:=Yk I.hok dx x v qx rx;obtain⟨⟨bs,rb⟩,cb⟩:=Yk I.hok dy y u qy ry;exact SeqAt.compareNe_reads ra rb ca cb hu ⟨.bl _,H,I,rfl,q⟩
end
end Rk
namespace Rk
open L2
end Rk
namespace Rx
open PySem.Calls L2
section
variable{X:Cx}{E:XK}
end
section
variable{X:Cx}{tf:TE}{fe:QM}{pos:Pos}{e:QM}{es:List QM}{t:TA}{M:Addr->Sp->Prop}
end
end Rx
namespace Rk
open L2 _root_.Rd
structure GlbA (mg:Str->Option Value):Prop where
 isinstance:mg "isinstance" = none
 int:mg "int" = none
 bool:mg "bool" = none
 str:mg "str" = none
 tuple:mg "tuple" = none
 list:mg "list" = none
 all:mg "all" = none
 len:mg "len" = none
 zip:mg "zip" = none
 enumerate:mg "enumerate" = none
 range:mg "range" = none
 max:mg "max" = none
 min:mg "min" = none
 sorted:mg "sorted" = none
 sum:mg "sum" = none
 set:mg "set" = none
 any:mg "any" = none
 reversed:mg "reversed" = none
 divmod:mg "divmod" = none
def Qu8(u:Nat)(neg:Bool):R2:=λx y H Q=>∃c ps ds d,y=.ref c/\H c=some (.tup ps)/\Dats H ps ds/\Dat H x d/\u+d.depth<cLine/\Q (.bl (if neg then !(ds.any λe=>Jh e d) else ds.any λe=>Jh e d)) H
end Rk
namespace Rx
open PySem.Calls L2
section
variable{P:QF}{w:Q9}{K:PySem.W.Frag}{mg:Str->Option Value}{base:JU}
end
end Rx
namespace Rk
open L2 _root_.Rd
section
variable{X:Cx}{is js:List Nat}
end
end Rk
namespace L2
theorem Z9{h:JU}{a:Addr}{its:Array Value}(p:PlainL h a its):h.IsList a its:=by
 obtain⟨o,n,h1,h2,_,h3⟩:=p;exact⟨o,h1,h2,n,h3⟩
structure QfB (h:JU) (z TI TO i1 i2 t1 t2:Addr) (f:Value) (k:Nat):Prop where
 zp:Qn2 h z TI TO f
 ti:IsPair h TI (.ref i1) (.ref i2)
 to:∃a b,IsPair h TO a b
 i1:h.IsListIter i1 t1 k
 i2:h.IsListIter i2 t2 k
section
variable{prog:QF}{w:Q9}{A:Q6}{E:Value->Shared->Prop}{s:Shared}
theorem Qix{z TI TO i1 i2 t1 t2:Addr}{k:Nat}{xs ys:Array Value}{x y:Value}{Q:Option Value->Shared->Prop}(D:Qtj z TI TO i1 i2 t1 t2)(Z:QfB s.heap z TI TO i1 i2 t1 t2 .none k)
  (hl1:s.heap.IsList t1 xs)(hl2:s.heap.IsList t2 ys)(hx:xs[k]? = some x)(hy:ys[k]? = some y)
  (hQ:∀h',QfB h' z TI TO i1 i2 t1 t2 (rawInt s.heap.objs.size) (k+1)->IsPair h' s.heap.objs.size x y->(∀c o,c≠z->c≠TO->c≠i1->c≠i2->s.heap.get? c=some o->h'.get? c=some o)->Q (some (.ref s.heap.objs.size)) { s with heap:=h' }) :
  wpAny (model prog w) A (pyNext (.ref z)) Q E s:=by
 obtain⟨hz,hTI,⟨a,b,hTO⟩,h1,h2⟩:=Z;exact wpAny_pyNext_zip_item D hz hTI hTO h1 h2 hl1 hl2 hx hy λh' a1 a2 a3 a4 a5 a6 a7=>hQ h' ⟨a1,a7 _ _ D.TIz D.TITO D.TIi1 D.TIi2 hTI,⟨x,y,a2⟩,a3,a4⟩ a5 a7
theorem Qlg{z TI TO i1 i2 t1 t2:Addr}{k:Nat}{xs ys:Array Value}{Q:Option Value->Shared->Prop}(hh:A.handled=none)(D:Qtj z TI TO i1 i2 t1 t2)(Z:QfB s.heap z TI TO i1 i2 t1 t2 .none k)
  (hl1:s.heap.IsList t1 xs)(hl2:s.heap.IsList t2 ys)(hend:xs[k]? = none∨ys[k]? = none)
  (hQ:∀h',(∀c o,c≠z->c≠TO->c≠i1->c≠i2->s.heap.get? c=some o->h'.get? c=some o)->Q none { s with heap:=h' }):wpAny (model prog w) A (pyNext (.ref z)) Q E s:=by
 obtain⟨hz,hTI,⟨a,b,hTO⟩,h1,h2⟩:=Z;exact wpAny_pyNext_zip_end hh D hz hTI hTO h1 h2 hl1 hl2 hend hQ
theorem Qiy{t1 t2:Addr}{xs ys:Array Value}{Q:Value->Shared->Prop}(hl1:s.heap.IsList t1 xs)(hl2:s.heap.IsList t2 ys)
  (h:∀h',QfB h' (s.heap.objs.size+4) (s.heap.objs.size+2) (s.heap.objs.size+3) s.heap.objs.size (s.heap.objs.size+1) t1 t2 .none 0->(∀c o,s.heap.get? c=some o->h'.get? c=some o)->Q (.ref (s.heap.objs.size+4)) { s with heap:=h' }) :
  wpAny (model prog w) A (call (.type "zip") [.ref t1,.ref t2]) Q E s:=
 call_zip_2 hl1 hl2 λh' a1 a2 a3 a4 a5 a6 a7=>h h' ⟨a1,a2,⟨_,_,a3⟩,a4,a5⟩ a7
end
def QvD(t1 t2:Addr):It:=
 ⟨λi H=>∃xs ys x y,H t1=some (.lst xs)/\H t2=some (.lst ys)/\xs[i]? = some x/\ys[i]? = some y,
  λi H v H'=>∃p x y,H p=none/\(∀xs,H t1=some (.lst xs)->xs[i]? = some x)/\(∀ys,H t2=some (.lst ys)->ys[i]? = some y)/\v=.ref p/\H'=upd H p (.tup [x,y]),
  λi H=>∃xs ys,H t1=some (.lst xs)/\H t2=some (.lst ys)/\(xs.length<=i∨ys.length<=i)⟩
theorem Qiz{P:QF}{w:Q9}{K:PySem.W.Frag}{elts:List QM}{x1}{tpos:Pos}{z TI TO i1 i2 t1 t2:Addr}(D:Qtj z TI TO i1 i2 t1 t2) :
  Turn P w K (.Tuple elts x1 tpos) (QvD t1 t2) [z,TI,TO,i1,i2] z (λi h=>QfB h z TI TO i1 i2 t1 t2 .none i) where
 mem:=by simp
 obj:=λi h st b hb=>by
  obtain⟨a1,a2,⟨_,_,a3⟩,⟨o4,a4,_,d4⟩,⟨o5,a5,_,d5⟩⟩:=st;simp only[Qy,QX,or_false] at hb;rcases hb with rfl | rfl | rfl | rfl | rfl
  ·exact⟨_,a1,λv q=>nomatch q⟩
  ·exact⟨_,a2,λv q=>nomatch q⟩
  ·exact⟨_,a3,λv q=>nomatch q⟩
  ·exact⟨_,a4,λv q=>by rw[d4] at q;cases q⟩
  ·exact⟨_,a5,λv q=>by rw[d5] at q;cases q⟩
 keep:=λi h h' st k=>by
  obtain⟨a1,a2,⟨a,b,a3⟩,a4,a5⟩:=st;exact⟨k z (by simp) _ a1,k TI (by simp) _ a2,⟨a,b,k TO (by simp) _ a3⟩,a4.at λo e=>k i1 (by simp) o e,a5.at λo e=>k i2 (by simp) o e⟩
 item:=by
  intro X hP hw hK hc i pins s σ H E I hf st hg;subst hP hw hK;obtain⟨xs,ys,x,y,h1,h2,hx,hy⟩:=hg;obtain⟨its1,r1,p1,_⟩:=I.list (SqL.of h1);obtain⟨its2,r2,p2,_⟩:=I.list (SqL.of h2);obtain⟨u1,hu1,ru1⟩:=r1.get hx;obtain⟨u2,hu2,ru2⟩:=r2.get hy;refine Qix D st (Z9 p1) (Z9 p2) (by simpa using hu1) (by simpa using hu2) λh' st' tp kp=>?_
  have hlt:∀b∈[z,TI,TO,i1,i2],b≠s.heap.objs.size:=λb hb=>by
   obtain⟨a1,a2,⟨_,_,a3⟩,⟨o4,a4,_,d4⟩,⟨o5,a5,_,d5⟩⟩:=st;simp only[Qy,QX,or_false] at hb;rcases hb with rfl | rfl | rfl | rfl | rfl
   ·exact Qu (Qi a1)
   ·exact Qu (Qi a2)
   ·exact Qu (Qi a3)
   ·exact Qu (Qi a4)
   ·exact Qu (Qi a5)
  have fr:H s.heap.objs.size=none:=I.hok.fresh (Qk _);refine⟨_,rfl,Qio st'.zp λh2' z2 s2=>?_⟩;have I1:Inv X pins σ (upd H s.heap.objs.size (.tup [x,y])) { s with heap:=h2',toks:=s.toks }:=by
   refine I.turnedNew (ch:=[z,TI,TO,i1,i2]) hf (λb u hb e=>?_) (Qk _) ⟨by show 2<=sizeLine;decide,[u1,u2],.cons ru1 (.cons ru2 .nil),?_⟩
   ·simp only[Qy,QX,or_false,not_or] at hb;exact s2.extBut _ _ hb.1 (kp b u hb.1 hb.2.2.1 hb.2.2.2.1 hb.2.2.2.2 e)
   ·exact⟨_,s2.extBut _ _ (hlt z (by simp)).symm tp,rfl,rfl,0,rfl⟩
  refine⟨.ref s.heap.objs.size,_,I1,rfl,⟨_,x,y,fr,λxs' e=>?_,λys' e=>?_,rfl,rfl⟩,?_,λb hb=>?_⟩
  ·rw[h1] at e;cases e;exact hx
  ·rw[h2] at e;cases e;exact hy
  ·obtain⟨a1,a2,⟨a,b,a3⟩,a4,a5⟩:=st';exact⟨z2,s2.extBut _ _ D.TIz a2,⟨a,b,s2.extBut _ _ D.TOz a3⟩,a4.extBut s2.extBut D.i1z,a5.extBut s2.extBut D.i2z⟩
  ·rw[Q5 (hlt b hb)];exact(hf b hb).1
 done:=by
  intro X hP hw hK hc i pins s σ H E I hf st hg;subst hP hw hK;obtain⟨xs,ys,h1,h2,he⟩:=hg;obtain⟨its1,r1,p1,_⟩:=I.list (SqL.of h1);obtain⟨its2,r2,p2,_⟩:=I.list (SqL.of h2);have l1:=r1.length;have l2:=r2.length;refine Qlg (I.ok.hd hc) D st (Z9 p1) (Z9 p2) ?_ λh' kp=>⟨rfl,I.turnedAll (t':=s.toks) (ch:=[z,TI,TO,i1,i2]) hf λb u hb e=>?_⟩
  ·rcases he with q | q
   ·exact .inl (by simp;omega)
   ·exact .inr (by simp;omega)
  ·simp only[Qy,QX,or_false,not_or] at hb;exact kp b u hb.1 hb.2.2.1 hb.2.2.2.1 hb.2.2.2.2 e
 self:=λ_ _ _ _ _ st h=>QbB st.zp h
section
variable{X:Cx}
theorem Qh7(n t1 t2:Nat)(h1:t1<n)(h2:t2<n):Qtj (n+4) (n+2) (n+3) n (n+1) t1 t2 where
 TIz:=by show ¬(n+2=n+4);omega
 TOz:=by show ¬(n+3=n+4);omega
 i1z:=by show ¬(n=n+4);omega
 i2z:=by show ¬(n+1=n+4);omega
 TITO:=by show ¬(n+2=n+3);omega
 TIi1:=by show ¬(n+2=n);omega
 TIi2:=by show ¬(n+2=n+1);omega
 TOi1:=by show ¬(n+3=n);omega
 TOi2:=by show ¬(n+3=n+1);omega
 i12:=by show ¬(n=n+1);omega
 l1z:=by show ¬(t1=n+4);omega
 l1TO:=by show ¬(t1=n+3);omega
 l1i1:=by show ¬(t1=n);omega
 l1i2:=by show ¬(t1=n+1);omega
 l2z:=by show ¬(t2=n+4);omega
 l2TO:=by show ¬(t2=n+3);omega
 l2i1:=by show ¬(t2=n);omega
 l2i2:=by show ¬(t2=n+1);omega
def QuG(ta:TA):TI:=λσ H R=>ta σ H λvs H1=>∃t1 t2 xs ys,vs=[.ref t1,.ref t2]/\H1 t1=some (.lst xs)/\H1 t2=some (.lst ys)/\R (QvD t1 t2) H1
theorem QkO:bootBuiltins "zip" = some (.type "zip"):=by decide +kernel
theorem Qov{a b:QM}{elts:List QM}{x1}{tpos:Pos}{ta:TA}{p pos:Pos}(hg:Gl X "zip")(hm:X.mg "zip" = none)(ha:PA X [a,b] ta)(hs:starEach [a,b] X.env=[(false,eval a X.env),(false,eval b X.env)]:=by rfl)(hs2:starEach [b] X.env=[(false,eval b X.env)]:=by rfl) :
  PI X (.Tuple elts x1 tpos) (.Call (.Name "zip" p) [a,b] [] pos) (QuG ta):=by
 intro pins s σ H R I h;refine Call_ (Qbw I hg hm QkO (JG (thn (ha pos pins s σ H _ I h) λus s1 ⟨vs,H1,I1,r1,q1⟩=>?_) (by rw[hs,hs2]) (by rw[hs2];rfl)));obtain⟨t1,t2,xs,ys,e,h1,h2,q⟩:=q1;subst e;obtain⟨u,v,rfl,ru,rv⟩:=vals2 r1;cases(show u=Za t1 from ru);cases(show v=Za t2 from rv);obtain⟨its1,w1,p1,_⟩:=I1.list (SqL.of h1);obtain⟨its2,w2,p2,_⟩:=I1.list (SqL.of h2);have n1:t1<s1.heap.objs.size:=I1.hok.lt h1;have n2:t2<s1.heap.objs.size:=I1.hok.lt h2;refine Qiy (Z9 p1) (Z9 p2) λh' st kp=>?_
 refine QbB (s:={ s1 with heap:=h' }) st.zp ?_
 have D:=Qh7 s1.heap.objs.size t1 t2 n1 n2;refine⟨s1.heap.objs.size+4,_,_,_,H1,rfl,I1.kept (t':=s1.toks) kp,Qiz D,st,λb hb=>?_,q⟩;have hb':s1.heap.objs.size<=b:=by
  simp only[Qy,QX,or_false] at hb;rcases hb with rfl | rfl | rfl | rfl | rfl<;>omega
 exact I1.fpOk hb' (I1.hok.fresh hb')
end
def QrH(K:PySem.W.Frag):List V->Hp->VK->Prop:=λxs H Q=>∃p ys,xs=[.ref p]/\(SqL K H p ys∨SqT K H p ys)/\Q (.int ys.length) H
def Qui:List V->Hp->VK->Prop:=λxs H Q=>(∃i,xs=[.int i]/\Q (.int i) H)∨∃k,xs=[.bl k]/\Q (.int (if k then 1 else 0)) H
theorem QnL:bootBuiltins "sum" = some (.builtin "sum"):=by decide +kernel
theorem bt_any:bootBuiltins "any" = some (.builtin "any"):=by decide +kernel
theorem Qft:bootBuiltins "sorted" = some (.builtin "sorted"):=by decide +kernel
def CMulB(i j:Int):Prop:=∃k:Nat,k<=1000000/\i.natAbs<2^k/\j.natAbs<2^k
theorem QkS{i:Int}{k:Nat}(h:i.natAbs<2^k):JO i<=k:=by
 unfold JO;split
 ·exact Jn _
 ·rename_i z
  have hz:i.natAbs≠0:=by
   intro q;apply z
   have:i=0:=by omega
   subst this;rfl
  have:=(Nat.log2_lt hz).mpr h;omega
theorem CMulB.ok{i j:Int}(h:CMulB i j):IntMulOk i j:=by
 obtain⟨k,hk,h1,h2⟩:=h;have a:=QkS h1;have b:=QkS h2;unfold IntMulOk;have c:Qd6 (JO i+JO j:Nat)=false:=by
  unfold Qd6;rw[decide_eq_false];have:bitsLine=134217728:=by decide +kernel
  rw[this];omega
 intro z;rw[Jk] at z;have z2:=z.2;have e:((JO i+JO j:Nat):Int)=(JO i:Int)+(JO j:Int):=by omega
 rw[e] at c;rw[c] at z2;cases z2
section
variable{X:Cx}
theorem QoZ:OpR X (binaryOp .Mult) (rI CMulB λi j=>.int (i*j)):=opI λ_ _ _ _ _ _ _ hc q=>mul_int q hc.ok
theorem QmL:QvB X (Qtu X.K):=by
 intro pins s σ H o i ov iv Q I ro ri h;obtain⟨p,xs,k,z,rfl,rfl,hq,he,q⟩:=h;cases ro;obtain⟨t,rfl⟩:=ri;obtain⟨its,r,pl,hz⟩:=I.list hq;obtain⟨j,h1,h2,h3,h4,h5⟩:=Qgo he;obtain⟨w,ew,rw'⟩:=r.get h2;have hl:=r.length;have hn:=QdG;have fin:EP X pins σ Q w s:=⟨z,H,I,rw',q⟩;by_cases h0:0<=k
 ·have hj:k.toNat=j:=by
   rw[Qhr h0 h5] at h1;exact Qq h1
  exact wpAny_getItem_list pl.isList h0 (by omega) (by rw[hj];simpa using ew) fin
 ·have hj:(k+(its.toArray.size:Int)).toNat=j:=by
   rw[QfC (by omega) h4] at h1;rw[Qm,<- hl];exact Qq h1
  exact QmX pl.isList (by omega) (by rw[Qm]<;>omega) (by omega) (by rw[hj];simpa using ew) fin
def iOr(a b:TI):TI:=λσ H R=>a σ H R∨b σ H R
theorem Quo{tg e:QM}{a b:TI}(h1:PI X tg e a)(h2:PI X tg e b):PI X tg e (iOr a b):=by
 intro pins s σ H R I h;rcases h with h | h
 ·exact h1 pins s σ H R I h
 ·exact h2 pins s σ H R I h
end
end L2
namespace Rk
open L2 _root_.Rd
def Qu3(u:Nat):R2:=λx y H Q=>∃dx dy,Dat H x dx/\Dat H y dy/\u+min dx.depth dy.depth<cLine/\Q (.bl (!Jh dx dy)) H
theorem Qsh{X:Cx}:OpR X (compareOp .NotEq) (Qu3 X.A.units):=Qsi
def Qvb(u:Nat):R2:=λx y H Q=>∃dx dy,Dat H x dx/\Dat H y dy/\u+min dx.depth dy.depth<cLine/\Q (.bl (Jh dx dy)) H
theorem QgU{X:Cx}:OpR X (compareOp .Eq) (Qvb X.A.units):=Qsl
theorem Qjr{X:Cx}:OpR X (compareOp .NotIn) (Qu8 X.A.in1.units true):=Qjs
def Qck:Nat->Qa->Bool
 |_,.none=>true
 |_,.bool _=>true
 |_,.int _=>true
 |_,.str _=>true
 |n+1,.tuple ds=>decide (ds.length<=1000)&&ds.all (Qck n)
 |n+1,.list ds=>decide (ds.length<=1000)&&ds.all (Qck n)
 |_,_=>false
def QfS:Nat->Sp
 |0=>λ_ _ _ _=>False
 |n+1=>λvs H Q _=>∃x y d,vs=[x,y]/\Dat H x d/\Dat H y d/\Qck n d=true/\∀H',Same H H'->Q (.bl true) H'
end Rk
namespace Rx
open PySem.Calls L2
end Rx
namespace Rk
open L2 _root_.Rd
theorem Qj5{n k:Nat}(h:k<n):ixN n (k:Nat)=some k:=by
 unfold ixN;rw[if_pos (by omega),if_pos (by omega)];simp
end Rk
namespace HT
theorem QlE(A:Q6)(s:Shared)(a:Int)(t:Tok)(c:Int)(u:Tok)(prog:QF)(w:Q9)(E:Value->Shared->Prop)(Q:Value->Shared->Prop)(h:Q (.bool (decide (c<a))) s) :
  wpAny (model prog w) A (richCompare .Gt (.int a t) (.int c u)) Q E s:=
 (PyProof.Rows.gt_int h:wpAny (model prog w) A (compareOp .Gt (.int a t) (.int c u)) Q E s)
section
open PySem.SeqAt
open PySem.AutoSeq1 (wpAny_loadPart')
open PySem.MeetsSeq PySem.MeetsSeq2 PySem.MeetsSeq3
theorem Qea(l b:Addr)(items items2:Array Value)(n n2:Nat)(dd dd2:Option Addr)(sl sl2:Array (Option Value))(ns ms:List Int)(hi:YH items.toList ns)(hj:YH items2.toList ms) :
  Meets (Qhx.«tuple.__gt__» ⟨[.ref l,.ref b],[]⟩)
   (λ_ R s=>s.heap.get? l=some { cls:=.type "tuple",dict:=dd,data:=.seq items n,slots:=sl }/\s.heap.get? b=some { cls:=.type "tuple",dict:=dd2,data:=.seq items2 n2,slots:=sl2 } /\
    R (.ok (.ret (.bool (lexLt ms ns)))) s):=
 .of_wp λprog w A R s h=>by
  obtain⟨hp,g,d,tk,os⟩:=s;obtain⟨hl,hb,h⟩:=h;have f2:=AutoSeq1.sub_tuple_tuple;have z1:items.size=ns.length:=by rw[<- hi.length];simp
  have z2:items2.size=ms.length:=by rw[<- hj.length];simp
  wp_walk using ZG hl,ZG hb,wpAny_forIn_list _ (λrest b s'=>b.1=none/\s'=⟨hp,g,d,tk,os⟩/\∃(vs ws:List Value)(ns' ms':List Int),rest=vs.zip ws /\
   YH vs ns'/\YH ws ms'/\ns'.length+items2.size=ms'.length+items.size/\R (.ok (.ret (.bool (lexLt ms' ns')))) ⟨hp,g,d,tk,os⟩) _
  case turn=>
   rintro⟨y,x⟩ rest b s' ⟨hb',rfl,vs,ws,ns',ms',hz,hvi,hwi,hlen,hR⟩;cases hvi with
   |nil=>rw[Qm3] at hz;cases hz
   |cons a t hvi'=>
    cases hwi with
    |nil=>rw[Qlc] at hz;cases hz
    |cons c u hwi'=>
     rw[Qad] at hz;injection hz with hyx hrest
     injection hyx with hy hx
     subst hy hx;rw[QbX] at hR;simp only[QK] at hlen;obtain⟨e,he,hiff⟩:=QmP A.in1 ⟨hp,g,d,tk,os⟩ a t c u;refine wpAny_bind (he prog w _ _ ?_);cases e with
     |true=>
      rw[if_pos (hiff.mp rfl).symm] at hR
      wp_walk
      exact⟨rfl,rfl,_,_,_,_,hrest,hvi',hwi',by omega,hR⟩
     |false=>
      rw[if_neg (λq=>absurd (hiff.mpr q.symm) Qj)] at hR;have hri:=QlE A.in1 ⟨hp,g,d,tk,os⟩ a t c u prog w
      wp_walk using hri
      exact⟨_,rfl,by simpa using hR⟩
  case fin=>
   rintro⟨b1,b2⟩ s' ⟨hb',rfl,vs,ws,ns',ms',hz,hvi,hwi,hlen,hR⟩;simp only at hb';subst hb';have hv:lexLt ms' ns'=decide (items2.size<items.size):=by
    cases hvi with
    |nil=>
     cases hwi with
     |nil=>
      simp only[Yq] at hlen;rw[Qbv];exact(decide_eq_false (by omega)).symm
     |cons c u hw=>
      simp only[Yq,QK] at hlen;rw[Qdj];exact(decide_eq_false (by omega)).symm
    |cons a t hv=>
     cases hwi with
     |nil=>
      simp only[Yq,QK] at hlen;rw[Qdi];exact(decide_eq_true (by omega)).symm
     |cons c u hw=>
      rw[Qad] at hz;cases hz
   rw[hv] at hR
   wp_walk
   exact⟨_,rfl,by simpa [Qa9] using hR⟩
  case h=>
   exact⟨rfl,rfl,items.toList,items2.toList,ns,ms,rfl,hi,hj,by omega,h⟩
end
section
variable{prog:QF}{w:Q9}{A:Q6}{E:Value->Shared->Prop}{s:Shared}
theorem Qh0{l b:Addr}{items items2:Array Value}{ns ms:List Int}{Q:Value->Shared->Prop}(hl:QtZ s.heap l items)(hb:QtZ s.heap b items2)(hi:YH items.toList ns)(hj:YH items2.toList ms)
  (hu:A.units<cLine)(h:Q (.bool (lexLt ms ns)) s):wpAny (model prog w) A (compareOp .Gt (.ref l) (.ref b)) Q E s:=by
 obtain⟨⟨cls,dd,data,sl⟩,ho,hc,n,hd⟩:=id hl;obtain⟨⟨cls2,dd2,data2,sl2⟩,ho2,hc2,n2,hd2⟩:=id hb;simp only at hc hd hc2 hd2;subst hc hd hc2 hd2;exact QmZ (op:=.Gt) ⟨_,ho,rfl⟩ ⟨_,ho2,rfl⟩ PySem.F.slot_tuple_gt PySem.F.entry_tuple_gt (PySem.F.args_tuple_gt_2 _ _) (Qea l b items items2 n n2 dd dd2 sl sl2 ns ms hi hj)
  ⟨ho,ho2,show Yl (lexLt ms ns)≠Qia/\Q (.bool (lexLt ms ns)) s from⟨(λx=>nomatch x),h⟩⟩ hu
end
end HT
namespace L2
def Qva(u:Nat)(K:PySem.W.Frag):R2:=λx y H Q=>∃a b ns ms,x=.ref a/\y=.ref b/\SqT K H a (ns.map V.int)/\SqT K H b (ms.map V.int)/\u<cLine/\Q (.bl (HT.lexLt ms ns)) H
theorem Qsk{X:Cx}:OpR X (compareOp .Gt) (Qva X.A.units X.K):=by
 intro pins s σ H x y v u Q I rx ry h;obtain⟨a,b,ns,ms,rfl,rfl,h1,h2,hu,q⟩:=h;cases rx;cases ry;obtain⟨i1,r1,p1,_⟩:=I.tuple h1;obtain⟨i2,r2,p2,_⟩:=I.tuple h2;exact HT.Qh0 p1 p2 (intsAre_of r1) (intsAre_of r2) hu ⟨.bl (HT.lexLt ms ns),H,I,rfl,q⟩
def QrC(K:PySem.W.Frag):V->Option Int->Option Int->Hp->VK->Prop:=λx lo hi H Q=>∃a xs,x=.ref a/\SqL K H a xs/\∀p H',Same H H'->H p=none->H' p=some (.lst (Qin xs lo hi))->Q (.ref p) H'
theorem Qlq{X:Cx}:SlR X (QrC X.K):=by
 intro pins s σ H x v vl vu lo hi sl Q I rx hs pl pu h;obtain⟨a,xs,e,hx,q⟩:=h;exact Qn6 pins s σ H x v vl vu lo hi sl Q I rx hs pl pu ⟨a,xs,e,hx,λp hp=>q p _ (Js hp) hp Q8⟩
end L2
namespace Rk
open L2 _root_.Rd
end Rk
namespace L2
section
variable{X:Cx}
def Qi4(K:PySem.W.Frag):List V->Hp->VK->Prop:=λxs H Q=>∃p ys,xs=[.ref p]/\((SqL K H p ys/\∀l H',Same H H'->H l=none->H' l=some (.tup ys)->Q (.ref l) H')∨(SqT K H p ys/\Q (.ref p) H))
theorem ZZ:CallR X (.type "tuple") (Qi4 X.K):=by
 intro pins s σ H xs us Q I r h;obtain⟨p,ys,e,h⟩:=h;refine QeD pins s σ H xs us Q I r ⟨p,ys,e,?_⟩;rcases h with⟨h1,h2⟩ | h
 ·exact .inl ⟨h1,λl hl=>h2 l _ (Js hl) hl Q8⟩
 ·exact .inr h
end
end L2
namespace Rk
open L2 _root_.Rd
def QfO:Nat->(Nat->Int)->Int
 |0,_=>0
 |n+1,f=>QfO n f+f n
end Rk
namespace L2
section
variable{X:Cx}
end
section
variable{X:Cx}
end
end L2
namespace Rk
open L2 _root_.Rd
end Rk
namespace Rx
open PySem.Calls L2
section
variable{X:Cx}{e:QM}{st:ZH}{pos:Pos}{te:TX}{t u:TSX}{tc:TT}{c:QM}{a b:List ZH}
end
section
variable{X:Cx}{R:Addr}{i:Nat}{n r:Str}{body:List ZH}{hx:QM}{tb:TSX}{th:TE}{np hp hpos pos:Pos}
end
end Rx
namespace L2
section
variable{X:Cx}
def QrF(K:PySem.W.Frag):List V->Hp->VK->Prop:=λxs H Q=>∃(p:Addr)(ns:List Int),xs=[.ref p]/\SqL K H p (ns.map V.int)/\0<ns.length/\∀m,m∈ns->(∀y∈ns,m<=y)->Q (.int m) H
theorem QkL(hc:X.calm=true):CallR X (.builtin "min") (QrF X.K):=by
 intro pins s σ H xs us Q I r h;obtain⟨p,ns,rfl,hp,hn,q⟩:=h;obtain⟨u,rfl,ru⟩:=vals1 r;cases ru;obtain⟨its,rv,pl,hz⟩:=I.list hp;have hi:YH its ns:=intsAre_of rv;obtain⟨ys,hx⟩:=hi.allInts.items;have hl':s.heap.IsList p (intItems ys):=hx ▸ pl.isList;have hsz:ys.size=ns.length:=by
  have h1:its.toArray.size=(intItems ys).size:=by rw[hx]
  rw[Qm,hi.length] at h1;simp[intItems] at h1;omega
 have num:∀j m,ns[j]? = some m->numAt ys j=m:=λj m e=>by
  obtain⟨w,hw,rw'⟩:=rv.get (i:=j) (x:=V.int m) (by rw[Qv,e];rfl);have h2:(intItems ys)[j]? = some w:=by rw[<- hx,Qig];exact hw
  unfold intItems at h2;rw[Array.getElem?_map] at h2;obtain⟨y,hy,ey⟩:=JP.mp h2;unfold numAt;rw[hy];subst ey;obtain⟨t,et⟩:=rw';cases et;rfl
 refine min_intList (I.ok.hd hc) hl' (by omega) λv h' tk hv hk=>?_
 rw[<- hx] at hv;rw[Qig] at hv;have ab:=argBest_lt (numAt ys) (ys.size - 1);generalize argBest (λi j=>decide (numAt ys i<numAt ys j)) (ys.size - 1)=b at *;obtain⟨x,hx2,rx⟩:∃x,(ns.map V.int)[b]? = some x/\RelV x v:=by
  have hlen:=rv.length;have hlt:=(Qr.mp hv).1;cases e:(ns.map V.int)[b]? with
  |none=>
   have:=List.getElem?_eq_none_iff.mp e
   omega
  |some x=>
   obtain⟨w,hw,rw'⟩:=rv.get e;rw[hw] at hv;cases hv;exact⟨x,rfl,rw'⟩
 rw[Qv] at hx2;obtain⟨m,hm,rfl⟩:=JP.mp hx2;refine⟨.int m,H,I.kept hk,rx,q m (Qt hm) λy hy=>?_⟩;obtain⟨j,hj⟩:=Jy.mp hy;have hjl:=(Qr.mp hj).1;have:=ab.2 j (by omega);rw[num b m hm,num j y hj] at this;exact this
end
end L2
namespace Rk
open L2 _root_.Rd
end Rk
namespace L2
section
variable{κ:Type}[DecidableEq κ]
end
section
variable{P:QF}{w:Q9}{H:Hp}{h:JU}{a:Addr}
end
section
variable{X:Cx}{pins:List (Addr×Obj)}{σ:St}{H:Hp}{s:Shared}{a:Addr}{y v:V}{u r:Value}{o:Option V}{A:Q6}{E:Value->Shared->Prop}
end
section
variable{X:Cx}{pins:List (Addr×Obj)}{σ:St}{H:Hp}{s:Shared}{a:Addr}{kvs:List (Key×V)}{k:Key}{u:Value}{A:Q6}{E:Value->Shared->Prop}
end
section
variable{X:Cx}{o i e value:QM}{pos pos' tpos:Pos}{td ty tv:TE}
end
section
variable{X:Cx}{pos:Pos}
end
section
variable{X:Cx}{pins:List (Addr×Obj)}{σ:St}{H:Hp}{s:Shared}{a:Addr}{y d:V}{u r:Value}{o:Option V}{A:Q6}{E:Value->Shared->Prop}
end
section
variable{X:Cx}{o e f:QM}{apos cpos:Pos}{td ty tx:TE}
end
section
variable{X:Cx}{pins:List (Addr×Obj)}{σ:St}{H:Hp}{s:Shared}{a:Addr}{kvs:List (Key×V)}{A:Q6}{E:Value->Shared->Prop}
end
section
variable{X:Cx}{pins:List (Addr×Obj)}{σ:St}{H:Hp}{s:Shared}{a:Addr}{y:V}{u:Value}{A:Q6}{E:Value->Shared->Prop}
end
section
variable{X:Cx}{pins:List (Addr×Obj)}{σ:St}{l it S fa:Addr}{xs:List V}{kw:List (Str×Value)}{val:Nat->Int}{H0:Hp}{R:Qk0->Shared->Prop}
def bstI(val:Nat->Int)(j:Nat):Nat:=argBest (λa b=>decide (val a<val b)) j
def ZA(S:Addr)(H0 H:Hp):Prop:=∀b o,b≠S->H0 b=some o->H b=some o
def QeH(X:Cx)(σ:St)(S fa:Addr)(xs:List V)(val:Nat->Int)(H0:Hp):Prop:=
 ∀(i:Nat)(x:V)(u:Value)(pins':List (Addr×Obj))(s:Shared)(H:Hp)(E:Value->Shared->Prop),xs[i]? = some x->RelV x u->Inv X pins' σ H s->ZA S H0 H ->
  wpAny (model X.prog X.w) X.A.in1 (call (.ref fa) [u]) (λr s'=>∃t H',r=.int (val i) t/\Inv X pins' σ H' s'/\Same H H') E s
theorem QbQ{s:Shared}{H:Hp}{ys zs:List V}{vs:List Value}(I:Inv X pins σ H s)(e:H S=some (.lst ys))(r:Vals zs vs)(hz:zs.length<=sizeLine):Inv X pins σ (upd H S (.lst zs)) { s with heap:=s.heap.update S (QbC λ_=>vs.toArray) }:=by
 obtain⟨_,its,n,rv,ln,ho⟩:=I.lstM e;refine I.write (t':=s.toks) (x:=S) (e:=S) (by rw[e];exact Qbj) (.inl rfl) (λb u hb z=>(JT _ _ (QaB hb)).trans z) ⟨_,YJ _ ho rfl⟩ ⟨hz,vs,_,r,YJ _ ho rfl⟩
theorem Qfi(hl:H0 l=some (.lst xs))(hlS:l≠S)(hkey:QeH X σ S fa xs val H0)(hc:X.calm=true)
  (hR:∀u s' H' x,xs[bstI val (xs.length - 1)]? = some x->RelV x u->Inv X pins σ H' s'->ZA S H0 H'->R (.ok (.ret u)) s') :
  ∀(k j:Nat)(s:Shared)(H:Hp)(x:V),xs.length - (j+1)=k->j+1<=xs.length->Inv X pins σ H s->FpOk X pins H it->s.heap.IsListIter it l (j+1)->ZA S H0 H->H S=some (.lst [x,.int (val (bstI val j))])->xs[bstI val j]? = some x ->
  codeAny (model X.prog X.w) X.A (.builtin "min.loop" ⟨[.ref it,.ref fa,.ref S],kw⟩) R s:=by
 have hname:(toString "min" ++ toString ".loop" : String) = "min.loop" := by decide
 intro k;induction k with
 |zero=>
  intro j s H x hk hj I hf st kp eS hx;have hin:j+1=xs.length:=by omega
  obtain⟨_,its,n,rv,ln,ho⟩:=I.lstM eS;obtain⟨u,w',e2,r1,r2⟩:∃u w',its=[u,w']/\RelV x u/\RelV (.int (val (bstI val j))) w':=by
   match its,rv with
   |[u,w'],.cons a (.cons b .nil)=>exact⟨u,w',rfl,a,b⟩
  subst e2;obtain⟨hz,its,n2,rl,ll,hol⟩:=I.lstM (kp _ _ hlS hl);obtain⟨f0,f1,f2,f3,f4,f5⟩:=hf;refine Yd ZM ?_
  rw[J9 Jg _];show wpAny _ X.A.in1 (seqItems? (.ref S) >>= _) _ _ s;refine wpAny_bind (Ju ho rfl ?_);show wpAny _ X.A.in1 (tryCatch (pyNext (.ref it)) _ >>= _) _ _ s;refine wpAny_bind (J7 (Y1 (I.ok.hd hc) st ⟨_,hol,rfl,_,rfl⟩ (by simp;omega) λh' eb=>?_));have I1:Inv X pins σ H { s with heap:=h' }:=I.turned (t':=s.toks) (λb o hb e=>eb b o hb e) f0 f1 f3 f4 f5;have ho1:h'.get? S=_:=eb S _ (λz=>by rw[z,f0] at eS;cases eS) ho;show wpAny _ X.A.in1 (updateSeq S (λ_=>#[]) >>= _) _ _ _;refine wpAny_bind ?_
  refine YF ho1 rfl (wpAny_bind (ZL (Qh ?_)));refine hR u _ _ x (by rw[<- hin];exact hx) r1 (QbQ (vs:=[]) (zs:=[]) I1 eS .nil (Jn _)) λb o hb e=>?_
  rw[Q5 hb];exact kp b o hb e
 |succ k ih=>
  intro j s H x hk hj I hf st kp eS hx;have hlt:j+1<xs.length:=by omega
  obtain⟨_,its,n,rv,ln,ho⟩:=I.lstM eS;obtain⟨u,w',e2,r1,r2⟩:∃u w',its=[u,w']/\RelV x u/\RelV (.int (val (bstI val j))) w':=by
   match its,rv with
   |[u,w'],.cons a (.cons b .nil)=>exact⟨u,w',rfl,a,b⟩
  subst e2;obtain⟨tw,rfl⟩:=r2;obtain⟨hz,its,n2,rl,ll,hol⟩:=I.lstM (kp _ _ hlS hl);obtain⟨v,hv,rv2⟩:=rl.get (i:=j+1) (x:=xs[j+1]) (Qg hlt);obtain⟨f0,f1,f2,f3,f4,f5⟩:=id hf;have nS:S≠it:=λz=>by rw[z,f0] at eS;cases eS
  refine Yd ZM ?_
  rw[J9 Jg _];show wpAny _ X.A.in1 (seqItems? (.ref S) >>= _) _ _ s;refine wpAny_bind (Ju ho rfl ?_);show wpAny _ X.A.in1 (tryCatch (pyNext (.ref it)) _ >>= _) _ _ s;refine wpAny_bind (J7 (ZW st ⟨_,hol,rfl,_,rfl⟩ (x:=v) (by simpa using hv) λh' st' sb=>?_));have I1:Inv X pins σ H { s with heap:=h' }:=I.turned (t':=s.toks) (λb o hb e=>(sb.2 b hb).trans e) f0 f1 f3 f4 f5;have pn:∀b∈[it],∃o,h'.get? b=some o/\∀v,o.data≠.cell v:=λb hb=>by
   have e:b=it:=by simpa using hb
   subst e;obtain⟨o,e,c,d⟩:=st';exact⟨o,e,λv z=>by rw[d] at z;cases z⟩
  have hfA:∀b∈[it],FpOk X pins H b:=λb hb=>by
   have e:b=it:=by simpa using hb
   rw[e];exact hf
  have I1p:=I1.pinned (fp:=[it]) hfA pn;show wpAny _ X.A.in1 (tryCatch (holding [v] (call (.ref fa) [v])) _ >>= _) _ _ _;refine wpAny_bind (J7 (JQ (wpAny_mono (hkey (j+1) _ v _ _ H _ (Qg hlt) rv2 I1p kp) (λr s2 ⟨t,H2,er,I2p,s12⟩=>?_) λ_ _ e=>e)));subst er;have I2:=I2p.unpinned;have it2:s2.heap.IsListIter it l (j+1+1):=st'.at λo e=>(I2p.pin (it,o) (QJ _ (QJ _ (Yb (Q0.mpr rfl) e)))).1
  have f02:H2 it=none:=by
   obtain⟨o,e,_⟩:=id st';exact(I2p.pin (it,o) (QJ _ (QJ _ (Yb (Q0.mpr rfl) e)))).2.1
  have hf2:FpOk X pins H2 it:=⟨f02,f1,f2,f3,f4,f5⟩;have kp2:ZA S H0 H2:=λb o hb e=>s12 _ _ (kp b o hb e)
  have eS2:=s12 _ _ eS;obtain⟨_,its2,n3,rv3,ln3,ho2⟩:=I2.lstM eS2;show wpAny _ X.A.in1 (tryCatch (holding [v,.int (val (j+1)) t] (richCompare .Lt (.int (val (j+1)) t) (.int (val (bstI val j)) tw) >>= _)) _ >>= _) _ _ _;refine wpAny_bind (J7 (JQ (wpAny_bind (HT.QgJ _ _ _ _ _ _ _ _ _ _ ?_))));refine wpAny_bind (JQ (Jp ?_));refine wpAny_bind (ZL (Qh ?_));have eb:bstI val (j+1)=if decide (val (j+1)<val (bstI val j))=true then j+1 else bstI val j:=rfl
  cases hb:decide (val (j+1)<val (bstI val j)) with
  |true=>
   rw[hb,if_pos rfl] at eb;simp only[if_true];refine wpAny_bind ?_
   refine YF ho2 rfl (wpAny_bind (ZL ?_));rw[hname];have I3:=QbQ (vs:=[v,.int (val (j+1)) t]) (zs:=[xs[j+1],.int (val (j+1))]) I2 eS2 (.cons rv2 (.cons ⟨t,rfl⟩ .nil)) (by show 2<=sizeLine;decide);refine Qh ⟨Yh Jg _,ih (j+1) _ _ xs[j+1] (by omega) hlt I3 ⟨by rw[Q5 (QaB nS)];exact f02,f1,f2,f3,f4,f5⟩ (it2.at λo e=>(JT _ _ nS).trans e) (λb o hb e=>by rw[Q5 hb];exact kp2 b o hb e) (by rw[eb];exact Q8) (by rw[eb];exact Qg hlt)⟩
  |false=>
   rw[hb,if_neg Qj] at eb;simp only[Qle,if_false];refine wpAny_bind (ZL ?_);rw[hname];exact Qh ⟨Yh Jg _,ih (j+1) _ _ x (by omega) hlt I2 hf2 it2 kp2 (by rw[eb];exact eS2) (by rw[eb];exact hx)⟩
theorem Qem(hl:H0 l=some (.lst xs))(hlS:l≠S)(hkey:QeH X σ S fa xs val H0)(hc:X.calm=true)(hn:0<xs.length)
  (hR:∀u s' H' x,xs[bstI val (xs.length - 1)]? = some x->RelV x u->Inv X pins σ H' s'->ZA S H0 H'->R (.ok (.ret u)) s'){s:Shared}{H:Hp}(I:Inv X pins σ H s)(hf:FpOk X pins H it)(st:s.heap.IsListIter it l 0)(kp:ZA S H0 H)(eS:H S=some (.lst [])) :
  codeAny (model X.prog X.w) X.A (.builtin "min.loop" ⟨[.ref it,.ref fa,.ref S],kw⟩) R s:=by
 have hname:(toString "min" ++ toString ".loop" : String) = "min.loop" := by decide
 obtain⟨_,its,n,rv,ln,ho⟩:=I.lstM eS;cases rv;obtain⟨hz,its,n2,rl,ll,hol⟩:=I.lstM (kp _ _ hlS hl);obtain⟨v,hv,rv2⟩:=rl.get (i:=0) (x:=xs[0]) (Qg hn);obtain⟨f0,f1,f2,f3,f4,f5⟩:=id hf;have nS:S≠it:=λz=>by rw[z,f0] at eS;cases eS
 refine Yd ZM ?_
 rw[J9 Jg _];show wpAny _ X.A.in1 (seqItems? (.ref S) >>= _) _ _ s;refine wpAny_bind (Ju ho rfl ?_);show wpAny _ X.A.in1 (tryCatch (pyNext (.ref it)) _ >>= _) _ _ s;refine wpAny_bind (J7 (ZW st ⟨_,hol,rfl,_,rfl⟩ (x:=v) (by simpa using hv) λh' st' sb=>?_));have I1:Inv X pins σ H { s with heap:=h' }:=I.turned (t':=s.toks) (λb o hb e=>(sb.2 b hb).trans e) f0 f1 f3 f4 f5;have pn:∀b∈[it],∃o,h'.get? b=some o/\∀v,o.data≠.cell v:=λb hb=>by
  have e:b=it:=by simpa using hb
  subst e;obtain⟨o,e,c,d⟩:=st';exact⟨o,e,λv z=>by rw[d] at z;cases z⟩
 have hfA:∀b∈[it],FpOk X pins H b:=λb hb=>by
  have e:b=it:=by simpa using hb
  rw[e];exact hf
 have I1p:=I1.pinned (fp:=[it]) hfA pn;show wpAny _ X.A.in1 (tryCatch (holding [v] (call (.ref fa) [v])) _ >>= _) _ _ _;refine wpAny_bind (J7 (JQ (wpAny_mono (hkey 0 _ v _ _ H _ (Qg hn) rv2 I1p kp) (λr s2 ⟨t,H2,er,I2p,s12⟩=>?_) λ_ _ e=>e)));subst er;have I2:=I2p.unpinned;have it2:s2.heap.IsListIter it l (0+1):=st'.at λo e=>(I2p.pin (it,o) (QJ _ (QJ _ (Yb (Q0.mpr rfl) e)))).1
 have f02:H2 it=none:=by
  obtain⟨o,e,_⟩:=id st';exact(I2p.pin (it,o) (QJ _ (QJ _ (Yb (Q0.mpr rfl) e)))).2.1
 have eS2:=s12 _ _ eS;obtain⟨_,its2,n3,rv3,ln3,ho2⟩:=I2.lstM eS2;show wpAny _ X.A.in1 (updateSeq S (λ_=>#[v,.int (val 0) t]) >>= _) _ _ _;refine wpAny_bind ?_
 refine YF ho2 rfl ?_
 rw[hname];have I3:=QbQ (vs:=[v,.int (val 0) t]) (zs:=[xs[0],.int (val 0)]) I2 eS2 (.cons rv2 (.cons ⟨t,rfl⟩ .nil)) (by show 2<=sizeLine;decide);exact Qh ⟨Yh Jg _,Qfi hl hlS hkey hc hR _ 0 _ _ xs[0] rfl hn I3 ⟨by rw[Q5 (QaB nS)];exact f02,f1,f2,f3,f4,f5⟩ (it2.at λo e=>(JT _ _ nS).trans e) (λb o hb e=>by rw[Q5 hb];exact s12 _ _ (kp b o hb e)) Q8 (Qg hn)⟩
theorem Qfh(hl:H0 l=some (.lst []))(hlS:l≠S)(hc:X.calm=true){d:Value}{kn:Str}{s:Shared}{H:Hp}(I:Inv X pins σ H s)(hf:FpOk X pins H it)(st:s.heap.IsListIter it l 0)(kp:ZA S H0 H)(eS:H S=some (.lst []))(hR:∀s',Inv X pins σ H s'->R (.ok (.ret d)) s') :
  codeAny (model X.prog X.w) X.A (.builtin "min.loop" ⟨[.ref it,.ref fa,.ref S],[(kn,d)]⟩) R s:=by
 obtain⟨_,its,n,rv,ln,ho⟩:=I.lstM eS;cases rv;obtain⟨hz,its,n2,rl,ll,hol⟩:=I.lstM (kp _ _ hlS hl);cases rl;obtain⟨f0,f1,f2,f3,f4,f5⟩:=id hf;refine Yd ZM ?_
 rw[J9 Jg _];show wpAny _ X.A.in1 (seqItems? (.ref S) >>= _) _ _ s;refine wpAny_bind (Ju ho rfl ?_);show wpAny _ X.A.in1 (tryCatch (pyNext (.ref it)) _ >>= _) _ _ s;refine wpAny_bind (J7 (Y1 (I.ok.hd hc) st ⟨_,hol,rfl,_,rfl⟩ (by simp) λh' eb=>?_));have I1:Inv X pins σ H { s with heap:=h' }:=I.turned (t':=s.toks) (λb o hb e=>eb b o hb e) f0 f1 f3 f4 f5;show wpAny _ X.A.in1 (rule _ >>= _) _ _ _;exact wpAny_bind (wpAny_rule (Qh (hR _ I1)))
end
section
variable{prog:QF}{w:Q9}{A:Q6}{E:Value->Shared->Prop}{s:Shared}
theorem Qfo{id:String}{b:Qhx}{args:List Value}{kw:List (Str×Value)}{Q:Value->Shared->Prop}(hk:builtinKind id=none)(hp:plainId id=true)
  (hb:entryFor table id=some b)(ha:argsOk id ⟨args,kw⟩)
  (hc:wpAny (model prog w) A.in1 (b ⟨args,kw⟩) (λfin s'=>match fin with
   |.done f=>(match (Except.ok f:Qk0) with | .ok (.ret v)=>Q v s' | .ok _=>False | .error e=>E e s')
   |.again c'=>c'.quiet=true/\codeAny (model prog w) A c' (λr s'=>match r with | .ok (.ret v)=>Q v s' | .ok _=>False | .error e=>E e s') s') E s) :
  wpAny (model prog w) A (call (.builtin id) args kw) Q E s:=by
 refine QtF (codeAny_call_builtin hp hb ?_);simp only[checkBuiltinCall,hk];cases hsig:Manifest.signature? id with
 |none=>exact Qh hc
 |some sig=>
  have ha':Bind.checkArgs id sig ⟨args,kw⟩=pure ():=by simpa only[argsOk,hsig] using ha
  simp only[ha'];exact Qh hc
end
theorem Qh6(a f:Value):argsOk "min" ⟨[a],[("key",f)]⟩:=by unfold argsOk;kernel_rfl
theorem Qgp(a f d:Value):argsOk "min" ⟨[a],[("key",f),("default",d)]⟩:=by unfold argsOk;kernel_rfl
section
variable{X:Cx}{pins:List (Addr×Obj)}{σ:St}{l fa:Addr}{xs:List V}{val:Nat->Int}
theorem Qfq{dv:Option (V×Value)}{H:Hp}{s:Shared}{Q:VK}{E:Value->Shared->Prop}(hc:X.calm=true)(I:Inv X pins σ H s)(hl:H l=some (.lst xs))(hd:∀p,dv=some p->RelV p.1 p.2)(hkey:∀S,H S=none->QeH X σ S fa xs val H)
  (h0:xs=[]->∃p,dv=some p/\∀H',Same H H'->Q p.1 H')(h1:∀x,xs[bstI val (xs.length - 1)]? = some x->∀H',Same H H'->Q x H') :
  wpAny (model X.prog X.w) X.A (call (.builtin "min") [.ref l] (("key",.ref fa)::dv.toList.map λp=>("default",p.2))) (EP X pins σ Q) E s:=by
 have hname:(toString "min" ++ toString ".loop" : String) = "min.loop" := by decide
 refine Qfo F.kind_min F.plain_min F.entry_min (by cases dv with | none=>exact Qh6 _ _ | some p=>exact Qgp _ _ _) ?_
 show wpAny _ X.A.in1 (Zw "min" ["key", "default"] 0 ⟨[],("key",.ref fa)::dv.toList.map λp=>("default",p.2)⟩ >>= _) _ _ s;refine wpAny_bind (Qp9 (show Zw "min" ["key", "default"] 0 ⟨[],("key",.ref fa)::dv.toList.map λp=>("default",p.2)⟩=pure [some (.ref fa),dv.map (·.2)] by cases dv<;>rfl) ?_);refine wpAny_bind (Qh ?_);obtain⟨hz,its,n,rl,ll,hol⟩:=I.lstM hl;refine wpAny_bind (YS (l:=l) ⟨_,hol,rfl,_,rfl⟩ ?_);have I1:Inv X pins σ H { s with heap:=s.heap.push { cls:=.type "list_iterator",data:=.fields #[.ref l,.int 0 0] } }:=I.kept (t':=s.toks) λb o e=>Qd _ e
 have hf:FpOk X pins H s.heap.objs.size:=I.fpOk (Qk _) (I.hok.fresh (Qk _));generalize hs1:({ s with heap:=s.heap.push { cls:=.type "list_iterator",data:=.fields #[.ref l,.int 0 0] } }:Shared)=s1 at I1;have st1:s1.heap.IsListIter s.heap.objs.size l 0:=by rw[<- hs1];exact⟨_,Qp _ rfl,rfl,rfl⟩
 have z1:s1.heap.objs.size=s.heap.objs.size+1:=by rw[<- hs1];exact Zh ..
 refine wpAny_bind (JB ?_);have I2:=I1.lnew (t':=s1.toks) (ys:=[]) (its:=[]) .nil (Jn _);have fS:H s1.heap.objs.size=none:=I1.hok.fresh (Qk _);have nl:l≠s1.heap.objs.size:=λz=>by rw[z,fS] at hl;cases hl
 have nit:s.heap.objs.size≠s1.heap.objs.size:=by rw[z1];exact Qu (YT _)
 have kp:ZA s1.heap.objs.size H (upd H s1.heap.objs.size (.lst [])):=λb o hb e=>by rw[Q5 hb];exact e
 obtain⟨f0,f1,f2,f3,f4,f5⟩:=hf;have hf2:FpOk X pins (upd H s1.heap.objs.size (.lst [])) s.heap.objs.size:=⟨by rw[Q5 nit];exact f0,f1,f2,f3,f4,f5⟩;have st2:(s1.heap.push { cls:=.type "list",data:=.seq ([]:List Value).toArray }).IsListIter s.heap.objs.size l 0:=st1.at λo e=>Qd _ e
 have sm:∀{H':Hp},ZA s1.heap.objs.size H H'->Same H H':=λk b o e=>k b o (λz=>by rw[z,fS] at e;cases e) e
 rw[hname];refine Qh ⟨Yh Jg _,?_⟩;cases xs with
 |nil=>
  obtain⟨p,ep,hq⟩:=h0 rfl;subst ep;exact Qfh (R:=λr s'=>match r with | .ok (.ret v)=>EP X pins σ Q v s' | .ok _=>False | .error e=>E e s') hl nl hc I2 hf2 st2 kp Q8 λs' I'=>⟨p.1,_,I',hd p rfl,hq _ (sm kp)⟩
 |cons x0 xr=>
  exact Qem (R:=λr s'=>match r with | .ok (.ret v)=>EP X pins σ Q v s' | .ok _=>False | .error e=>E e s') hl nl (hkey _ fS) hc (by show 0<xr.length+1;omega) (λu s' H' x hx r I' k=>⟨x,H',I',r,h1 x hx H' (sm k)⟩) I2 hf2 st2 kp Q8
end
end L2
namespace L2
open PySem.Calls _root_.Rd _root_.Rk
section
variable{X:Cx}{k:Nat}{fa:Addr}{fd:QB}{pn:Str}{sp:Sp}{E0:XK}
end
end L2
namespace Rk
open L2 _root_.Rd
end Rk
namespace Dl
open L2 _root_.Rd Rk
def dkV(kvs:List (Int×Int)):List (Key×V):=kvs.map λp=>(Qbk p.1,V.int p.2)
def dkD(kvs:List (Int×Int)):List (Qa×Qa):=kvs.map λp=>(Qf p.1,Qf p.2)
mutual
inductive DA (A:Addr->Prop) (H:Hp):V->Qa->Prop
 |non:DA A H .non .none
 |bl (b:Bool):DA A H (.bl b) (.bool b)
 |int (i:Int):DA A H (.int i) (.int i)
 |str (x:Str):Qbl (.str x)=true->DA A H (.str x) (.str x)
 |tup {a:Addr} {xs:List V} {ds:List Qa}:¬A a->H a=some (.tup xs)->DAs A H xs ds->DA A H (.ref a) (.tuple ds)
 |lst {a:Addr} {xs:List V} {ds:List Qa}:¬A a->H a=some (.lst xs)->DAs A H xs ds->DA A H (.ref a) (.list ds)
 |dct {a:Addr} {kvs:List (Int×Int)} {ds:List (Qa×Qa)}:¬A a->H a=some (.dK (dkV kvs))->ds=dkD kvs->DA A H (.ref a) (.dict ds)
inductive DAs (A:Addr->Prop) (H:Hp):List V->List Qa->Prop
 |nil:DAs A H [] []
 |cons {x:V} {xs:List V} {d:Qa} {ds:List Qa}:DA A H x d->DAs A H xs ds->DAs A H (x::xs) (d::ds)
end
mutual
theorem Qs0{A A':Addr->Prop}{H H':Hp}(k:∀a o,¬A a->H a=some o->H' a=some o)(m:∀a,A' a->A a∨H a=none):∀(d:Qa)(x:V),DA A H x d->DA A' H' x d
 |.none,_,.non=>.non
 |.bool _,_,.bl _=>.bl _
 |.int _,_,.int _=>.int _
 |.str _,_,.str _ c=>.str _ c
 |.tuple ds,_,.tup (xs:=xs) n e q=>.tup (λz=>(m _ z).elim n λz=>by rw[z] at e;cases e) (k _ _ n e) (Qhe k m ds xs q)
 |.list ds,_,.lst (xs:=xs) n e q=>.lst (λz=>(m _ z).elim n λz=>by rw[z] at e;cases e) (k _ _ n e) (Qhe k m ds xs q)
 |.dict _,_,.dct n e q=>.dct (λz=>(m _ z).elim n λz=>by rw[z] at e;cases e) (k _ _ n e) q
theorem Qhe{A A':Addr->Prop}{H H':Hp}(k:∀a o,¬A a->H a=some o->H' a=some o)(m:∀a,A' a->A a∨H a=none):∀(ds:List Qa)(xs:List V),DAs A H xs ds->DAs A' H' xs ds
 |[],_,.nil=>.nil
 |d::ds,_,.cons (x:=x) (xs:=xs) q qs=>.cons (Qs0 k m d x q) (Qhe k m ds xs qs)
end
theorem DA.mv{A A':Addr->Prop}{H H':Hp}{x:V}{d:Qa}(q:DA A H x d)(k:∀a o,¬A a->H a=some o->H' a=some o)(m:∀a,A' a->A a∨H a=none):DA A' H' x d:=Qs0 k m d x q
theorem DAs.mv{A A':Addr->Prop}{H H':Hp}{x:List V}{d:List Qa}(q:DAs A H x d)(k:∀a o,¬A a->H a=some o->H' a=some o)(m:∀a,A' a->A a∨H a=none):DAs A' H' x d:=Qhe k m d x q
theorem DA.same{A:Addr->Prop}{H H':Hp}{x:V}{d:Qa}(q:DA A H x d)(s:Same H H'):DA A H' x d:=q.mv (λa o _ e=>s a o e) λa z=>.inl z
theorem DAs.same{A:Addr->Prop}{H H':Hp}{x:List V}{d:List Qa}(q:DAs A H x d)(s:Same H H'):DAs A H' x d:=q.mv (λa o _ e=>s a o e) λa z=>.inl z
theorem DAs.length{A:Addr->Prop}{H:Hp}:∀{xs:List V}{ds:List Qa},DAs A H xs ds->xs.length=ds.length
 |_,_,.nil=>rfl
 |_,_,.cons _ q=>by rw[QK,QK,q.length]
theorem DAs.get{A:Addr->Prop}{H:Hp}:∀{xs:List V}{ds:List Qa},DAs A H xs ds->∀(i:Nat)(d:Qa),ds[i]? = some d->∃x,xs[i]? = some x/\DA A H x d
 |_,_,.nil,i,x,e=>by simp at e
 |_,_,.cons q qs,0,x,e=>by simp at e;subst e;exact⟨_,rfl,q⟩
 |_,_,.cons q qs,i+1,x,e=>qs.get i x (by simpa using e)
theorem DAs.app{A:Addr->Prop}{H:Hp}:∀{xs ys:List V}{ds es:List Qa},DAs A H xs ds->DAs A H ys es->DAs A H (xs++ys) (ds++es)
 |_,_,_,_,.nil,q=>q
 |_,_,_,_,.cons a b,q=>.cons a (b.app q)
theorem DAs.take{A:Addr->Prop}{H:Hp}:∀{xs:List V}{ds:List Qa},DAs A H xs ds->∀n:Nat,DAs A H (xs.take n) (ds.take n)
 |_,_,.nil,n=>by rw[Qtn,Qtn];exact .nil
 |_,_,.cons a b,0=>.nil
 |_,_,.cons a b,n+1=>.cons a (b.take n)
theorem DAs.drop{A:Addr->Prop}{H:Hp}:∀{xs:List V}{ds:List Qa},DAs A H xs ds->∀n:Nat,DAs A H (xs.drop n) (ds.drop n)
 |_,_,.nil,n=>by rw[Qto,Qto];exact .nil
 |_,_,.cons a b,0=>.cons a b
 |_,_,.cons a b,n+1=>b.drop n
theorem DAs.set{A:Addr->Prop}{H:Hp}{x:V}{d:Qa}(q:DA A H x d):∀{xs:List V}{ds:List Qa},DAs A H xs ds->∀n:Nat,DAs A H (xs.set n x) (ds.set n d)
 |_,_,.nil,n=>.nil
 |_,_,.cons a b,0=>.cons q b
 |_,_,.cons a b,n+1=>.cons a (b.set q n)
mutual
def nd:Qa->Bool
 |.dict _=>false
 |.tuple ds=>nds ds
 |.list ds=>nds ds
 |_=>true
def nds:List Qa->Bool
 |[]=>true
 |d::ds=>nd d&&nds ds
end
mutual
theorem Qhg{A:Addr->Prop}{H:Hp}:∀(d:Qa)(x:V),nd d=true->DA A H x d->Dat H x d
 |.none,_,_,.non=>.non
 |.bool _,_,_,.bl _=>.bl _
 |.int _,_,_,.int _=>.int _
 |.str _,_,_,.str _ c=>.str _ c
 |.tuple ds,_,n,.tup (xs:=xs) _ e q=>.tup e (Qam ds xs n q)
 |.list ds,_,n,.lst (xs:=xs) _ e q=>.lst e (Qam ds xs n q)
theorem Qam{A:Addr->Prop}{H:Hp}:∀(ds:List Qa)(xs:List V),nds ds=true->DAs A H xs ds->Dats H xs ds
 |[],_,_,.nil=>.nil
 |d::ds,_,n,.cons (x:=x) (xs:=xs) q qs=>by
  have n':=QR.mp (show(nd d&&nds ds)=true from n);exact .cons (Qhg d x n'.1 q) (Qam ds xs n'.2 qs)
end
theorem Qf5{ds:List Qa}:nds ds=true↔∀d∈ds,nd d=true:=by
 induction ds with
 |nil=>exact⟨(λ_ _ h=>nomatch h),λ_=>rfl⟩
 |cons d ds ih=>
  rw[show nds (d::ds)=(nd d&&nds ds) from rfl,QR,ih];constructor
  ·rintro⟨a,b⟩ e he;rcases Qy.mp he with z | z
   ·rw[z];exact a
   ·exact b e z
  ·intro h;exact⟨h d (by simp),λe he=>h e (by simp[he])⟩
def DP(A P:Addr->Prop)(H:Hp)(v:V)(d:Qa):Prop:=DA A H v d∨∃l xs ds,v=.ref l/\d=.list ds/\¬P l/\H l=some (.lst xs)/\DAs A H xs ds
theorem DP.dat{A P:Addr->Prop}{H:Hp}{v:V}{d:Qa}(h:DP A P H v d)(n:nd d=true):Dat H v d:=by
 rcases h with h | ⟨l,xs,ds,rfl,rfl,_,e,q⟩
 ·exact Qhg d v n h
 ·exact .lst e (Qam ds xs n q)
theorem DP.list{A P:Addr->Prop}{H:Hp}{v:V}{ds:List Qa}(h:DP A P H v (.list ds)):∃l xs,v=.ref l/\H l=some (.lst xs)/\DAs A H xs ds:=by
 rcases h with h | ⟨l,xs,ds',rfl,e,_,h2,q⟩
 ·cases h with | lst n e q=>exact⟨_,_,rfl,e,q⟩
 ·cases e;exact⟨l,xs,rfl,h2,q⟩
theorem DP.tuple{A P:Addr->Prop}{H:Hp}{v:V}{ds:List Qa}(h:DP A P H v (.tuple ds)):∃l xs,v=.ref l/\H l=some (.tup xs)/\DAs A H xs ds:=by
 rcases h with h | ⟨l,xs,ds',rfl,e,_⟩
 ·cases h with | tup n e q=>exact⟨_,_,rfl,e,q⟩
 ·cases e
theorem DP.int{A P:Addr->Prop}{H:Hp}{v:V}{i:Int}(h:DP A P H v (.int i)):v=.int i:=by
 rcases h with h | ⟨l,xs,ds',rfl,e,_⟩
 ·cases h;rfl
 ·cases e
theorem DP.bool{A P:Addr->Prop}{H:Hp}{v:V}{i:Bool}(h:DP A P H v (.bool i)):v=.bl i:=by
 rcases h with h | ⟨l,xs,ds',rfl,e,_⟩
 ·cases h;rfl
 ·cases e
theorem DP.none{A P:Addr->Prop}{H:Hp}{v:V}(h:DP A P H v .none):v=.non:=by
 rcases h with h | ⟨l,xs,ds',rfl,e,_⟩
 ·cases h;rfl
 ·cases e
theorem DP.str{A P:Addr->Prop}{H:Hp}{v:V}{x:Str}(h:DP A P H v (.str x)):v=.str x/\Qbl (.str x)=true:=by
 rcases h with h | ⟨l,xs,ds',rfl,e,_⟩
 ·cases h with | str _ c=>exact⟨rfl,c⟩
 ·cases e
inductive Sl where
 |no | pot | scr
 |v (d:Qa)
 |own (ds:List Qa)
 |pk (ds:List Qa)
abbrev Sts:=List Sl
structure Fm where
 H0:Hp
 A0:Addr->Prop
 pt:Addr->Prop
def QvC(σ:L2.St)(δ:Sts)(i:Nat)(a:Addr):Prop:=σ[i]? = some (some (.ref a))/\(δ[i]? = some .pot∨∃ds,δ[i]? = some (.own ds))
def Av(F:Fm)(σ:L2.St)(δ:Sts)(a:Addr):Prop:=F.A0 a∨∃i,QvC σ δ i a
def ZF(σ:L2.St)(δ:Sts)(a:Addr):Prop:=∃i:Nat,σ[i]? = some (some (.ref a))/\δ[i]? = some .pot
def QvA(K:PySem.W.Frag)(F:Fm)(H:Hp)(A:Addr->Prop)(o:Option V):Sl->Prop
 |.no=>True
 |.v d=>∃v,o=some v/\DA A H v d
 |.own ds=>∃l xs,o=some (.ref l)/\H l=some (.lst xs)/\DAs A H xs ds/\F.H0 l=none
 |.pk ds=>∃l xs,o=some (.ref l)/\H l=some (.lst xs)/\DAs A H xs ds/\∃ys,F.H0 l=some (.lst ys)/\¬F.pt l
 |.pot=>∃p n,o=some (.ref p)/\H p=some (.lst [.int n])/\(F.pt p∨F.H0 p=none)
 |.scr=>∃a ns,o=some (.ref a)/\SqL K F.H0 a ((ns:List Int).map V.int)/\¬F.pt a/\ns.length<=63
structure Rel (K:PySem.W.Frag) (F:Fm) (σ:L2.St) (H:Hp) (δ:Sts):Prop where
 len:σ.length=δ.length
 dom:∀a,F.A0 a->∃xs,H a=some (.lst xs)
 dom0:∀a,F.A0 a->∃xs,F.H0 a=some (.lst xs)
 pt0:∀p,F.pt p->F.A0 p/\∃n,H p=some (.lst [.int n])
 kx:∀b o,¬F.pt b->F.H0 b=some o->H b=some o
 sl:∀(i:Nat) o x,σ[i]? = some o->δ[i]? = some x->QvA K F H (Av F σ δ) o x
 inj:∀(i j:Nat) a ds,δ[i]? = some (.own ds)->σ[i]? = some (some (.ref a))->QvC σ δ j a->i=j
def Kp(σ:L2.St)(δ:Sts)(H H':Hp):Prop:=(∀b o,¬ZF σ δ b->H b=some o->H' b=some o)/\∀b,ZF σ δ b->∃n,H' b=some (.lst [.int n])
def Stp(F:Fm)(σ:L2.St)(H:Hp)(δ:Sts)(σ':L2.St)(H':Hp)(δ':Sts):Prop:=(∀b o,¬Av F σ δ b->H b=some o->H' b=some o)/\∀b,Av F σ' δ' b->Av F σ δ b∨H b=none
def Ke(F:Fm)(H':Hp):Prop:=(∀b o,¬F.pt b->F.H0 b=some o->H' b=some o)/\∀p,F.pt p->∃n,H' p=some (.lst [.int n])
theorem Yn{F:Fm}{σ:L2.St}{δ:Sts}{a:Addr}(h:ZF σ δ a):Av F σ δ a:=let ⟨i,h1,h2⟩:=h;.inr ⟨i,h1,.inl h2⟩
theorem Rel.ke{K:PySem.W.Frag}{F:Fm}{σ:L2.St}{H:Hp}{δ:Sts}(r:Rel K F σ H δ):Ke F H:=⟨r.kx,λp hp=>(r.pt0 p hp).2⟩
theorem Rel.isl{K:PySem.W.Frag}{F:Fm}{σ:L2.St}{H:Hp}{δ:Sts}(r:Rel K F σ H δ){a:Addr}(h:Av F σ δ a):∃xs,H a=some (.lst xs):=by
 rcases h with h | ⟨i,h1,h2⟩
 ·exact r.dom a h
 ·rcases h2 with h2 | ⟨ds,h2⟩
  ·obtain⟨p,n,e,h,_⟩:=r.sl i _ _ h1 h2;cases e;exact⟨_,h⟩
  ·obtain⟨l,xs,e,h,_⟩:=r.sl i _ _ h1 h2;cases e;exact⟨_,h⟩
theorem Kp.refl{K:PySem.W.Frag}{F:Fm}{σ:L2.St}{H:Hp}{δ:Sts}(r:Rel K F σ H δ):Kp σ δ H H:=⟨λ_ _ _ e=>e,λb ⟨i,h1,h2⟩=>by
 obtain⟨p,n,e,h,_⟩:=r.sl i _ _ h1 h2;cases e;exact⟨n,h⟩⟩
theorem Kp.trans{σ:L2.St}{δ:Sts}{H H1 H2:Hp}(a:Kp σ δ H H1)(b:Kp σ δ H1 H2):Kp σ δ H H2:=⟨λc o n e=>b.1 c o n (a.1 c o n e),b.2⟩
theorem Kp.same{K:PySem.W.Frag}{F:Fm}{σ:L2.St}{H H':Hp}{δ:Sts}(r:Rel K F σ H δ)(s:Same H H'):Kp σ δ H H':=⟨λb o _ e=>s b o e,λb hb=>let ⟨n,h⟩:=(Kp.refl r).2 b hb;⟨n,s _ _ h⟩⟩
theorem Kp.da{F:Fm}{σ:L2.St}{H H':Hp}{δ:Sts}{v:V}{d:Qa}(k:Kp σ δ H H')(h:DA (Av F σ δ) H v d):DA (Av F σ δ) H' v d:=h.mv (λa o n e=>k.1 a o (λz=>n (Yn z)) e) λa z=>.inl z
theorem Kp.das{F:Fm}{σ:L2.St}{H H':Hp}{δ:Sts}{v:List V}{d:List Qa}(k:Kp σ δ H H')(h:DAs (Av F σ δ) H v d):DAs (Av F σ δ) H' v d:=h.mv (λa o n e=>k.1 a o (λz=>n (Yn z)) e) λa z=>.inl z
theorem Kp.dp{F:Fm}{σ:L2.St}{H H':Hp}{δ:Sts}{v:V}{d:Qa}(k:Kp σ δ H H')(h:DP (Av F σ δ) (ZF σ δ) H v d):DP (Av F σ δ) (ZF σ δ) H' v d:=by
 rcases h with h | ⟨l,xs,ds,e1,e2,n,e,q⟩
 ·exact .inl (k.da h)
 ·exact .inr ⟨l,xs,ds,e1,e2,n,k.1 _ _ n e,k.das q⟩
theorem Rel.own_pot{K:PySem.W.Frag}{F:Fm}{σ:L2.St}{H:Hp}{δ:Sts}(r:Rel K F σ H δ){i:Nat}{ds:List Qa}{l:Addr}(h:δ[i]? = some (.own ds))(e:σ[i]? = some (some (.ref l))):¬ZF σ δ l:=by
 rintro⟨j,h1,h2⟩;have:=r.inj i j l _ h e ⟨h1,.inl h2⟩;subst this;rw[h] at h2;cases h2
theorem Rel.pt_pot{K:PySem.W.Frag}{F:Fm}{σ:L2.St}{H H':Hp}{δ:Sts}(r:Rel K F σ H δ)(k:Kp σ δ H H'){p:Addr}(hp:F.pt p):∃n,H' p=some (.lst [.int n]):=by
 by_cases z:ZF σ δ p
 ·exact k.2 p z
 ·obtain⟨n,e⟩:=(r.pt0 p hp).2;exact⟨n,k.1 _ _ z e⟩
theorem Rel.kp{K:PySem.W.Frag}{F:Fm}{σ:L2.St}{H H':Hp}{δ:Sts}(r:Rel K F σ H δ)(k:Kp σ δ H H'):Rel K F σ H' δ where
 len:=r.len
 dom:=λa ha=>by
  by_cases z:ZF σ δ a
  ·exact⟨_,(k.2 a z).choose_spec⟩
  ·obtain⟨xs,e⟩:=r.dom a ha;exact⟨xs,k.1 _ _ z e⟩
 dom0:=r.dom0
 pt0:=λp hp=>⟨(r.pt0 p hp).1,r.pt_pot k hp⟩
 kx:=λb o n e=>by
  by_cases z:ZF σ δ b
  ·obtain⟨i,h1,h2⟩:=z;obtain⟨p,m,e1,h,q⟩:=r.sl i _ _ h1 h2;cases e1;rcases q with q | q
   ·exact absurd q n
   ·rw[q] at e;cases e
  ·exact k.1 _ _ z (r.kx b o n e)
 sl:=λi o x h1 h2=>by
  have h:=r.sl i o x h1 h2;cases x with
  |no=>trivial
  |v d=>obtain⟨v,e,q⟩:=h;exact⟨v,e,k.da q⟩
  |own ds=>obtain⟨l,xs,rfl,e,q,f⟩:=h;exact⟨l,xs,rfl,k.1 _ _ (r.own_pot h2 h1) e,k.das q,f⟩
  |pk ds=>
   obtain⟨l,xs,rfl,e,q,ys,f,f2⟩:=h;refine⟨l,xs,rfl,k.1 _ _ ?_ e,k.das q,ys,f,f2⟩;rintro⟨j,j1,j2⟩;obtain⟨p,m,e1,_,w⟩:=r.sl j _ _ j1 j2;cases e1;rcases w with w | w
   ·exact f2 w
   ·rw[w] at f;cases f
  |pot=>
   obtain⟨p,n,rfl,e,q⟩:=h;obtain⟨m,e'⟩:=k.2 p ⟨i,h1,h2⟩;exact⟨p,m,rfl,e',q⟩
  |scr=>exact h
 inj:=r.inj
theorem Rel.same{K:PySem.W.Frag}{F:Fm}{σ:L2.St}{H H':Hp}{δ:Sts}(r:Rel K F σ H δ)(s:Same H H'):Rel K F σ H' δ:=r.kp (Kp.same r s)
theorem Stp.refl{F:Fm}{σ:L2.St}{H:Hp}{δ:Sts}:Stp F σ H δ σ H δ:=⟨λ_ _ _ e=>e,λ_ z=>.inl z⟩
theorem Stp.trans{F:Fm}{σ σ1 σ2:L2.St}{H H1 H2:Hp}{δ δ1 δ2:Sts}(a:Stp F σ H δ σ1 H1 δ1)(b:Stp F σ1 H1 δ1 σ2 H2 δ2):Stp F σ H δ σ2 H2 δ2:=by
 refine⟨λc o n e=>?_,λc z=>?_⟩
 ·refine b.1 c o (λz=>?_) (a.1 c o n e);rcases a.2 c z with q | q
  ·exact n q
  ·rw[q] at e;cases e
 ·rcases b.2 c z with q | q
  ·exact a.2 c q
  ·by_cases y:Av F σ δ c
   ·exact .inl y
   ·right
    cases e:H c with
    |none=>rfl
    |some o=>rw[a.1 c o y e] at q;cases q
theorem Stp.kp{F:Fm}{σ:L2.St}{H H':Hp}{δ:Sts}(k:Kp σ δ H H'):Stp F σ H δ σ H' δ:=⟨λb o n e=>k.1 b o (λz=>n (Yn z)) e,λ_ z=>.inl z⟩
theorem Stp.da{F:Fm}{σ σ':L2.St}{H H':Hp}{δ δ':Sts}{v:V}{d:Qa}(k:Stp F σ H δ σ' H' δ')(h:DA (Av F σ δ) H v d):DA (Av F σ' δ') H' v d:=h.mv k.1 k.2
abbrev XP:=Addr->Prop
abbrev DE:=Sts->(Qa->Prop)->XP->Prop
abbrev DT:=Sts->(Bool->Prop)->XP->Prop
abbrev DAr:=Sts->(List Qa->Prop)->XP->Prop
abbrev DSl:=Sts->(List Sl->Prop)->XP->Prop
inductive Md where | D | P | F
def FrV(H H':Hp)(v:V):Prop:=∀l,v=.ref l->(∃xs,H' l=some (.lst xs))->H l=none
def Vok(m:Md)(F:Fm)(σ:L2.St)(δ:Sts)(H H':Hp)(v:V)(d:Qa):Prop:=
 match m with
 |.D=>DA (Av F σ δ) H' v d
 |.P=>DP (Av F σ δ) (ZF σ δ) H' v d
 |.F=>DA (Av F σ δ) H' v d/\FrV H H' v
def Out(F:Fm)(E:XK)(EX:XP):Prop:=∀C,EX C->∀H',Ke F H'->E (.ref C) none H'
def tX(m:Md)(K:PySem.W.Frag)(E:XK)(w:DE):TE:=λσ H Q=>∃(F:Fm)(δ:Sts)(R:Qa->Prop)(EX:XP),Rel K F σ H δ/\w δ R EX/\(∀d,R d->∀v H',Rel K F σ H' δ->Kp σ δ H H'->Vok m F σ δ H H' v d->Q v H')/\Out F E EX
def tT(K:PySem.W.Frag)(E:XK)(w:DT):TT:=λσ H Q=>∃(F:Fm)(δ:Sts)(R:Bool->Prop)(EX:XP),Rel K F σ H δ/\w δ R EX/\(∀b,R b->∀H',Rel K F σ H' δ->Kp σ δ H H'->Q b H')/\Out F E EX
def VD(m:Md)(A P:Addr->Prop)(H:Hp)(v:V)(d:Qa):Prop:=
 match m with
 |.P=>DP A P H v d
 |_=>DA A H v d
def tAr(n:Nat)(m:Md)(K:PySem.W.Frag)(E:XK)(w:DAr):TA:=λσ H Q=>∃(F:Fm)(δ:Sts)(R:List Qa->Prop)(EX:XP),Rel K F σ H δ/\w δ R EX/\(∀ds,R ds->ds.length=n->∀vs H',Rel K F σ H' δ->Kp σ δ H H'->YR (VD m (Av F σ δ) (ZF σ δ) H') vs ds->Q vs H')/\Out F E EX
def Qgu(A pt:Addr->Prop)(H:Hp)(v:V):Sl->Prop
 |.v d=>DA A H v d
 |.pot=>∃p,v=.ref p/\pt p
 |_=>False
def tAs(K:PySem.W.Frag)(E:XK)(w:DSl):TA:=λσ H Q=>∃(F:Fm)(δ:Sts)(R:List Sl->Prop)(EX:XP),Rel K F σ H δ/\w δ R EX/\(∀ds,R ds->∀vs H',Rel K F σ H' δ->Kp σ δ H H'->YR (Qgu (Av F σ δ) (ZF σ δ) H') vs ds->Q vs H')/\Out F E EX
theorem Kp.vd{m:Md}{F:Fm}{σ:L2.St}{H H':Hp}{δ:Sts}{v:V}{d:Qa}(k:Kp σ δ H H')(h:VD m (Av F σ δ) (ZF σ δ) H v d):VD m (Av F σ δ) (ZF σ δ) H' v d:=by
 cases m
 ·exact k.da h
 ·exact k.dp h
 ·exact k.da h
theorem Kp.arg{F:Fm}{σ:L2.St}{H H':Hp}{δ:Sts}{v:V}{d:Sl}(k:Kp σ δ H H')(h:Qgu (Av F σ δ) (ZF σ δ) H v d):Qgu (Av F σ δ) (ZF σ δ) H' v d:=by
 cases d with
 |v d=>exact k.da h
 |pot=>exact h
 |_=>exact h.elim
def QbA(H:Hp):Prop:=∀a xs,H a=some (.lst xs)∨H a=some (.tup xs)->xs.length<=sizeLine
section
variable{X:Cx}{E:XK}
theorem Inv.lens{pins:List (Addr×Obj)}{σ:L2.St}{H:Hp}{s:Shared}(I:Inv X pins σ H s):QbA H:=λa xs h=>by
 rcases h with h | h
 ·exact(I.hok a _ h).1
 ·exact(I.hok a _ h).1
theorem PE.imp{e:QM}{t t':TE}(h:PE X e t)(i:∀σ H Q,t' σ H Q->t σ H Q):PE X e t':=λpins s σ H Q I q=>h pins s σ H Q I (i σ H Q q)
theorem PT.imp{e:QM}{t t':TT}(h:PT X e t)(i:∀σ H Q,t' σ H Q->t σ H Q):PT X e t':=λpins s σ H Q I q=>h pins s σ H Q I (i σ H Q q)
theorem PW.imp{e:QM}{t t':TT}(h:PW X e t)(i:∀σ H Q,t' σ H Q->t σ H Q):PW X e t':=λwh pins s σ H Q I q=>h wh pins s σ H Q I (i σ H Q q)
theorem PA.imp{e:List QM}{t t':TA}(h:PA X e t)(i:∀σ H Q,t' σ H Q->t σ H Q):PA X e t':=λpos pins s σ H Q I q=>h pos pins s σ H Q I (i σ H Q q)
theorem OpR.len{f:Value->Value->Sem Value}{r:R2}(h:OpR X f r):OpR X f (λx y H Q=>QbA H->r x y H Q):=λpins s σ H x y v u Q I rx ry q=>h pins s σ H x y v u Q I rx ry (q (Inv.lens I))
theorem CallR.len{f:Value}{r:List V->Hp->VK->Prop}(h:CallR X f r):CallR X f (λxs H Q=>QbA H->r xs H Q):=λpins s σ H xs us Q I rx q=>h pins s σ H xs us Q I rx (q (Inv.lens I))
theorem IxR.len{r:R2}(h:IxR X r):IxR X (λx y H Q=>QbA H->r x y H Q):=λa b pins s σ H x y v u Q I rx ry q hs=>h a b pins s σ H x y v u Q I rx ry (q (Inv.lens I)) hs
theorem OpR.or2{f:Value->Value->Sem Value}{r r':R2}(h:OpR X f r)(h':OpR X f r'):OpR X f (λx y H Q=>r x y H Q∨r' x y H Q):=OpR.or h h'
theorem IxR.or2{r r':R2}(h:IxR X r)(h':IxR X r'):IxR X (λx y H Q=>r x y H Q∨r' x y H Q):=λa b pins s σ H x y v u Q I rx ry q hs=>q.elim (λq=>h a b pins s σ H x y v u Q I rx ry q hs) λq=>h' a b pins s σ H x y v u Q I rx ry q hs
theorem SlR.or2{r r':V->Option Int->Option Int->Hp->VK->Prop}(h:SlR X r)(h':SlR X r'):SlR X (λx a b H Q=>r x a b H Q∨r' x a b H Q):=λpins s σ H x v vl vu lo hi sl Q I rx hs pl pu q=>q.elim (h pins s σ H x v vl vu lo hi sl Q I rx hs pl pu) (h' pins s σ H x v vl vu lo hi sl Q I rx hs pl pu)
theorem toD{e:QM}{w:DE}(h:PE X e (tX .F X.K E w)):PE X e (tX .D X.K E w):=PE.imp h λσ H Q ⟨F,δ,R,EX,r,hw,k,o⟩=>⟨F,δ,R,EX,r,hw,λd hd v H' r' kp vk=>k d hd v H' r' kp vk.1,o⟩
theorem toP{e:QM}{w:DE}(h:PE X e (tX .D X.K E w)):PE X e (tX .P X.K E w):=PE.imp h λσ H Q ⟨F,δ,R,EX,r,hw,k,o⟩=>⟨F,δ,R,EX,r,hw,λd hd v H' r' kp vk=>k d hd v H' r' kp (.inl vk),o⟩
theorem QvF{e:QM}{w:DE}(h:PE X e (tX .F X.K E w)):PE X e (tX .P X.K E w):=toP (toD h)
def QuQ(i:Nat):DE:=λδ Q _=>match δ[i]? with
 |some (.v d)=>Q d
 |_=>False
def dPk(i:Nat):DE:=λδ Q _=>match δ[i]? with
 |some (.v d)=>Q d
 |some (.own ds)=>Q (.list ds)
 |some (.pk ds)=>Q (.list ds)
 |_=>False
def dC(d:Qa):DE:=λ_ Q _=>Q d
theorem Rel.lt{K:PySem.W.Frag}{F:Fm}{σ:L2.St}{H:Hp}{δ:Sts}(r:Rel K F σ H δ){i:Nat}{x:Sl}(h:δ[i]? = some x):∃o,σ[i]? = some o:=by
 have:=(Qr.mp h).1;exact⟨σ[i]'(by rw[r.len];exact this),Qg _⟩
theorem Qr3{e:QM}{i:Nat}(h:PE X e (QgB i)):PE X e (tX .D X.K E (QuQ i)):=PE.imp h λσ H Q ⟨F,δ,R,EX,r,hw,k,o⟩=>by
 unfold QuQ at hw;split at hw
 ·rename_i d hd
  obtain⟨x,hx⟩:=r.lt hd;obtain⟨v,rfl,q⟩:=r.sl i _ _ hx hd;exact⟨v,hx,k d hw v H r (Kp.refl r) q⟩
 ·exact hw.elim
theorem Qus{e:QM}{i:Nat}(h:PE X e (QgB i)):PE X e (tX .P X.K E (dPk i)):=PE.imp h λσ H Q ⟨F,δ,R,EX,r,hw,k,o⟩=>by
 unfold dPk at hw;split at hw
 ·rename_i d hd
  obtain⟨x,hx⟩:=r.lt hd;obtain⟨v,rfl,q⟩:=r.sl i _ _ hx hd;exact⟨v,hx,k d hw v H r (Kp.refl r) (.inl q)⟩
 ·rename_i d hd
  obtain⟨x,hx⟩:=r.lt hd;obtain⟨l,xs,rfl,e,q,_⟩:=r.sl i _ _ hx hd;exact⟨_,hx,k _ hw _ H r (Kp.refl r) (.inr ⟨l,xs,d,rfl,rfl,r.own_pot hd hx,e,q⟩)⟩
 ·rename_i d hd
  obtain⟨x,hx⟩:=r.lt hd;obtain⟨l,xs,rfl,e,q,ys,f,f2⟩:=r.sl i _ _ hx hd;refine⟨_,hx,k _ hw _ H r (Kp.refl r) (.inr ⟨l,xs,d,rfl,rfl,?_,e,q⟩)⟩;rintro⟨j,j1,j2⟩;obtain⟨p,m,e1,_,w⟩:=r.sl j _ _ j1 j2;cases e1;rcases w with w | w
  ·exact f2 w
  ·rw[w] at f;cases f
 ·exact hw.elim
theorem Qtv{e:QM}{v:V}{d:Qa}(h:PE X e (tC v))(q:∀(A:Addr->Prop)(H:Hp),DA A H v d):PE X e (tX .D X.K E (dC d)):=PE.imp h λσ H Q ⟨F,δ,R,EX,r,hw,k,o⟩=>k d hw v H r (Kp.refl r) (q _ _)
theorem Qsa{i:Int}{j pos}:PE X (.Constant (.int i) j pos) (tX .D X.K E (dC (.int i))):=Qtv Ya λ_ _=>.int i
theorem Quw{b:Bool}{j pos}:PE X (.Constant (.bool b) j pos) (tX .D X.K E (dC (.bool b))):=Qtv QrZ λ_ _=>.bl b
theorem Qr7{j pos}:PE X (.Constant .none j pos) (tX .D X.K E (dC .none)):=Qtv Qjf λ_ _=>.non
def OpD(r:R2)(rD:Qa->Qa->(Qa->Prop)->Prop):Prop:=∀(A P:Addr->Prop)(H:Hp)(x y:V)(d1 d2:Qa)(R:Qa->Prop)(Q:VK),QbA H->(∀a,A a->∃xs,H a=some (.lst xs))->DP A P H x d1->DP A P H y d2->rD d1 d2 R ->
 (∀d,R d->∀v H',Same H H'->DA A H' v d->FrV H H' v->Q v H')->r x y H Q
def QpT(r:R2)(rD:Qa->Qa->(Qa->Prop)->Prop):Prop:=∀(A P:Addr->Prop)(H:Hp)(x y:V)(d1 d2:Qa)(R:Qa->Prop)(Q:VK),QbA H->(∀a,A a->∃xs,H a=some (.lst xs))->DP A P H x d1->DP A P H y d2->rD d1 d2 R ->
 (∀d,R d->∀v H',Same H H'->DA A H' v d->Q v H')->r x y H Q
def dOp(rD:Qa->Qa->(Qa->Prop)->Prop)(wa wb:DE):DE:=λδ Q EX=>wa δ (λd1=>wb δ (λd2=>rD d1 d2 Q) EX) EX
theorem Qf0{K:PySem.W.Frag}{r:R2}{rD:Qa->Qa->(Qa->Prop)->Prop}{wa wb:DE}(hd:OpD r rD)(σ:L2.St)(H:Hp)(Q:VK)(h:tX .F K E (dOp rD wa wb) σ H Q) :
  tOp (λx y H Q=>QbA H->r x y H Q) (tX .P K E wa) (tX .P K E wb) σ H Q:=by
 obtain⟨F,δ,R,EX,rel,hw,k,o⟩:=h;refine⟨F,δ,_,EX,rel,hw,λd1 h1 x H1 rel1 kp1 x1=>⟨F,δ,_,EX,rel1,h1,λd2 h2 y H2 rel2 kp2 y2=>λln=>?_,o⟩,o⟩;refine hd (Av F σ δ) (ZF σ δ) H2 x y d1 d2 R Q ln (λa ha=>rel2.isl ha) (kp2.dp x1) y2 h2 λd hR v H' s q f=>?_
 refine k d hR v H' (rel2.same s) ((kp1.trans kp2).trans (Kp.same rel2 s)) ⟨q,λl e1 e2=>?_⟩;have f2:=f l e1 e2;cases e:H l with
 |none=>rfl
 |some ob=>
  by_cases z:ZF σ δ l
  ·obtain⟨n,en⟩:=kp2.2 l z;rw[en] at f2;cases f2
  ·rw[(kp1.trans kp2).1 _ _ z e] at f2;cases f2
theorem Qmg{K:PySem.W.Frag}{r:R2}{rD:Qa->Qa->(Qa->Prop)->Prop}{wa wb:DE}(hd:QpT r rD)(σ:L2.St)(H:Hp)(Q:VK)(h:tX .D K E (dOp rD wa wb) σ H Q) :
  tOp (λx y H Q=>QbA H->r x y H Q) (tX .P K E wa) (tX .P K E wb) σ H Q:=by
 obtain⟨F,δ,R,EX,rel,hw,k,o⟩:=h;refine⟨F,δ,_,EX,rel,hw,λd1 h1 x H1 rel1 kp1 x1=>⟨F,δ,_,EX,rel1,h1,λd2 h2 y H2 rel2 kp2 y2=>λln=>?_,o⟩,o⟩;refine hd (Av F σ δ) (ZF σ δ) H2 x y d1 d2 R Q ln (λa ha=>rel2.isl ha) (kp2.dp x1) y2 h2 λd hR v H' s q=>?_
 exact k d hR v H' (rel2.same s) ((kp1.trans kp2).trans (Kp.same rel2 s)) q
variable{a b:QM}{wa wb:DE}{pos:Pos}{r:R2}{rD:Qa->Qa->(Qa->Prop)->Prop}
theorem Qsd{op:Qd3}(ho:OpR X (binaryOp op) r)(hd:OpD r rD)(ha:PE X a (tX .P X.K E wa))(hb:PE X b (tX .P X.K E wb)):PE X (.BinOp a op b pos) (tX .F X.K E (dOp rD wa wb)):=PE.imp (Qaj (OpR.len ho) ha hb) (Qf0 hd)
theorem Qsc{op:Qhw}(ho:OpR X (compareOp op) r)(hd:OpD r rD)(ha:PE X a (tX .P X.K E wa))(hb:PE X b (tX .P X.K E wb))(hm:behindInMarks op b=false):PE X (.Compare a [op] [b] pos) (tX .F X.K E (dOp rD wa wb)):=PE.imp (QbS (OpR.len ho) ha hb hm) (Qf0 hd)
theorem Quu{r:R2}{rD:Qa->Qa->(Qa->Prop)->Prop}(ho:IxR X r)(hd:QpT r rD)(ha:PE X a (tX .P X.K E wa))(hb:PE X b (tX .P X.K E wb))(hs:Qgs b):PE X (.Subscript a b pos) (tX .D X.K E (dOp rD wa wb)):=PE.imp (QlR (IxR.len ho) ha hb hs) (Qmg hd)
def dTst(w:DE):DT:=λδ Q EX=>w δ (λd=>match d with
 |.bool k=>Q k
 |_=>False) EX
theorem QoG{op:Qhw}(ho:OpR X (compareOp op) r)(hd:OpD r rD)(ha:PE X a (tX .P X.K E wa))(hb:PE X b (tX .P X.K E wb))(hm:behindInMarks op b=false):PT X (.Compare a [op] [b] pos) (tT X.K E (dTst (dOp rD wa wb))):=by
 refine PT.imp (QbR (OpR.len ho) ha hb hm) λσ H Q ⟨F,δ,R,EX,rel,hw,k,o⟩=>?_
 refine Qf0 hd σ H (λx H'=>∃k,x=.bl k/\Q k H') ⟨F,δ,_,EX,rel,hw,λd hd2 v H' rel' kp vk=>?_,o⟩;split at hd2
 ·rename_i b
  have:v=.bl b:=by cases vk.1;rfl
  exact⟨b,this,k b hd2 H' rel' kp⟩
 ·exact hd2.elim
def tru:Qa->Bool
 |.none=>false
 |.bool b=>b
 |.int i=>i != 0
 |.str y=>(y.length:Int) != 0
 |.list ds => !ds.isEmpty
 |.tuple ds => !ds.isEmpty
 |.dict ds => !ds.isEmpty
def strOk:Qa->Prop
 |.str y=>y.length<=sizeLine
 |_=>True
def dTru(w:DE):DT:=λδ Q EX=>w δ (λd=>strOk d/\Q (tru d)) EX
theorem Qrm{K:PySem.W.Frag}{A P:Addr->Prop}{H:Hp}{v:V}{d:Qa}(h:DP A P H v d)(hs:strOk d):QuU K v H (tru d):=by
 have sq:∀{xs:List V}{ds:List Qa},DAs A H xs ds->(!ds.isEmpty) = !xs.isEmpty:=λq=>by cases q<;>rfl
 rcases h with h | ⟨l,xs,ds,rfl,rfl,_,e,q⟩
 ·cases h with
  |non=>rfl
  |bl b=>rfl
  |int i=>rfl
  |str x c=>exact⟨hs,rfl⟩
  |@tup a xs ds n e q=>exact .inr (.inl ⟨xs,SqT.of e,sq q⟩)
  |@lst a xs ds n e q=>exact .inl ⟨xs,SqL.of e,sq q⟩
  |@dct a kvs ds n e q=>subst q;exact .inr (.inr ⟨dkV kvs,e,by cases kvs<;>rfl⟩)
 ·exact .inl ⟨xs,SqL.of e,sq q⟩
theorem QoE{e:QM}{w:DE}(h:PE X e (tX .P X.K E w))(he:∀whole,isTrue e X.env whole=(do let v <- whole;standAt e.pos;holding [v] (truthy v))):PT X e (tT X.K E (dTru w)):=by
 refine PT.imp (QlK h he) λσ H Q ⟨F,δ,R,EX,rel,hw,k,o⟩=>?_
 exact⟨F,δ,_,EX,rel,hw,λd ⟨hs,hq⟩ v H' rel' kp vk=>⟨tru d,Qrm vk hs,k _ hq H' rel' kp⟩,o⟩
theorem QoD{e:QM}{w:DE}(h:PE X e (tX .P X.K E w))(he:∀whole,isTrue e X.env whole=(do let v <- whole;standAt e.pos;holding [v] (truthy v)):=by intro _;rfl):PT X e (tT X.K E (dTst w)):=by
 refine PT.imp (QgN h he) λσ H Q ⟨F,δ,R,EX,rel,hw,k,o⟩=>?_
 refine⟨F,δ,_,EX,rel,hw,λd hd v H' rel' kp vk=>?_,o⟩;split at hd
 ·exact⟨_,DP.bool vk,k _ hd H' rel' kp⟩
 ·exact hd.elim
def Qvz(wa wb:DT):DT:=λδ Q EX=>wa δ (λc=>if c=true then wb δ Q EX else Q false) EX
def dOr(wa wb:DT):DT:=λδ Q EX=>wa δ (λc=>if c=true then Q true else wb δ Q EX) EX
def Qvr(wa:DT):DT:=λδ Q EX=>wa δ (λc=>Q (!c)) EX
theorem Qa4{c:Prop}[Decidable c]{p q p' q':Prop}(h:if c then p else q)(h1:p->p')(h2:q->q'):if c then p' else q':=by
 split at h
 ·rw[if_pos (by assumption)];exact h1 h
 ·rw[if_neg (by assumption)];exact h2 h
variable{rest:List QM}{ta tb:DT}
theorem QlV(ha:PT X a (tT X.K E ta)):PW X (.BoolOp .And [a] pos) (tT X.K E ta):=Qoq ha
theorem QoB(ha:PT X a (tT X.K E ta)):PW X (.BoolOp .Or [a] pos) (tT X.K E ta):=Qnn ha
theorem QoC(ha:PT X a (tT X.K E ta))(hb:PW X (.BoolOp .And (b::rest) pos) (tT X.K E tb)):PW X (.BoolOp .And (a::b::rest) pos) (tT X.K E (Qvz ta tb)):=by
 refine PW.imp (QrT ha hb) λσ H Q ⟨F,δ,R,EX,rel,hw,k,o⟩=>?_
 refine⟨F,δ,_,EX,rel,hw,λc hc H' rel' kp=>?_,o⟩;exact Qa4 hc (λz=>⟨F,δ,R,EX,rel',z,λc hc H2 rel2 kp2=>k c hc H2 rel2 (kp.trans kp2),o⟩) λz=>k _ z H' rel' kp
theorem Qr0(ha:PT X a (tT X.K E ta))(hb:PW X (.BoolOp .Or (b::rest) pos) (tT X.K E tb)):PW X (.BoolOp .Or (a::b::rest) pos) (tT X.K E (dOr ta tb)):=by
 refine PW.imp (QrS ha hb) λσ H Q ⟨F,δ,R,EX,rel,hw,k,o⟩=>?_
 refine⟨F,δ,_,EX,rel,hw,λc hc H' rel' kp=>?_,o⟩;exact Qa4 hc (λz=>k _ z H' rel' kp) (λz=>⟨F,δ,R,EX,rel',z,λc hc H2 rel2 kp2=>k c hc H2 rel2 (kp.trans kp2),o⟩)
theorem QoF(ha:PT X a (tT X.K E ta)):PT X (.UnaryOp .Not a pos) (tT X.K E (Qvr ta)):=by
 refine PT.imp (QrU ha) λσ H Q ⟨F,δ,R,EX,rel,hw,k,o⟩=>?_
 exact⟨F,δ,_,EX,rel,hw,λc hc H' rel' kp=>k _ hc H' rel' kp,o⟩
def Qs8(wa wb:DE):DE:=λδ Q EX=>wa δ (λd=>match d with
 |.bool c=>if c=true then wb δ Q EX else Q (.bool false)
 |_=>False) EX
def Qvq(wa wb:DE):DE:=λδ Q EX=>wa δ (λd=>match d with
 |.bool c=>if c=true then Q (.bool true) else wb δ Q EX
 |_=>False) EX
def Qs5(wa:DE):DE:=λδ Q EX=>wa δ (λd=>match d with
 |.bool c=>Q (.bool (!c))
 |_=>False) EX
theorem Qr5{op}{w:DE}(h:PE X a (tX .D X.K E w)):PE X (.BoolOp op [a] pos) (tX .D X.K E w):=Qdw h
theorem Qse(ha:PE X a (tX .P X.K E wa))(hb:PE X (.BoolOp .And (b::rest) pos) (tX .D X.K E wb)):PE X (.BoolOp .And (a::b::rest) pos) (tX .D X.K E (Qs8 wa wb)):=by
 refine PE.imp (Qdx ha hb) λσ H Q ⟨F,δ,R,EX,rel,hw,k,o⟩=>?_
 refine⟨F,δ,_,EX,rel,hw,λd hd v H' rel' kp vk=>?_,o⟩;split at hd
 ·exact⟨_,DP.bool vk,Qa4 hd (λz=>⟨F,δ,R,EX,rel',z,λd hd v H2 rel2 kp2=>k d hd v H2 rel2 (kp.trans kp2),o⟩) λz=>k _ z _ H' rel' kp (.bl _)⟩
 ·exact hd.elim
theorem Qut(ha:PE X a (tX .P X.K E wa))(hb:PE X (.BoolOp .Or (b::rest) pos) (tX .D X.K E wb)):PE X (.BoolOp .Or (a::b::rest) pos) (tX .D X.K E (Qvq wa wb)):=by
 refine PE.imp (Quq ha hb) λσ H Q ⟨F,δ,R,EX,rel,hw,k,o⟩=>?_
 refine⟨F,δ,_,EX,rel,hw,λd hd v H' rel' kp vk=>?_,o⟩;split at hd
 ·exact⟨_,DP.bool vk,Qa4 hd (λz=>k _ z _ H' rel' kp (.bl _)) (λz=>⟨F,δ,R,EX,rel',z,λd hd v H2 rel2 kp2=>k d hd v H2 rel2 (kp.trans kp2),o⟩)⟩
 ·exact hd.elim
theorem Qr6(ha:PE X a (tX .P X.K E wa)):PE X (.UnaryOp .Not a pos) (tX .D X.K E (Qs5 wa)):=by
 refine PE.imp (Qnu ha) λσ H Q ⟨F,δ,R,EX,rel,hw,k,o⟩=>?_
 refine⟨F,δ,_,EX,rel,hw,λd hd v H' rel' kp vk=>?_,o⟩;split at hd
 ·exact⟨_,DP.bool vk,k _ hd _ H' rel' kp (.bl _)⟩
 ·exact hd.elim
def Qvw(t:DT)(wa wb:DE):DE:=λδ Q EX=>t δ (λc=>if c=true then wa δ Q EX else wb δ Q EX) EX
theorem Qsb{c:QM}(hc:PT X c (tT X.K E ta))(ha:PE X a (tX .D X.K E wa))(hb:PE X b (tX .D X.K E wb)):PE X (.IfExp c a b pos) (tX .D X.K E (Qvw ta wa wb)):=by
 refine PE.imp (QlS hc ha hb) λσ H Q ⟨F,δ,R,EX,rel,hw,k,o⟩=>?_
 refine⟨F,δ,_,EX,rel,hw,λd hd H' rel' kp=>?_,o⟩;exact Qa4 hd (λz=>⟨F,δ,R,EX,rel',z,λd hd v H2 rel2 kp2=>k d hd v H2 rel2 (kp.trans kp2),o⟩) (λz=>⟨F,δ,R,EX,rel',z,λd hd v H2 rel2 kp2=>k d hd v H2 rel2 (kp.trans kp2),o⟩)
end
theorem QdC{A:Addr->Prop}{H H':Hp}{l:Addr}{xs:List V}{ds:List Qa}(dm:∀a,A a->∃xs,H a=some (.lst xs))(s:Same H H')(n:H l=none)(e:H' l=some (.lst xs))(q:DAs A H xs ds):DA A H' (.ref l) (.list ds):=
 .lst (λz=>by obtain⟨ys,e'⟩:=dm l z;rw[n] at e';cases e') e (q.same s)
theorem QeX{A:Addr->Prop}{H H':Hp}{l:Addr}{xs:List V}{ds:List Qa}(dm:∀a,A a->∃xs,H a=some (.lst xs))(s:Same H H')(e:H' l=some (.tup xs))(q:DAs A H xs ds):DA A H' (.ref l) (.tuple ds):=
 .tup (λz=>by obtain⟨ys,e'⟩:=dm l z;rw[s _ _ e'] at e;cases e) e (q.same s)
theorem Qbd{H H':Hp}{l:Addr}(n:H l=none):FrV H H' (.ref l):=λl' e _=>by cases e;exact n
theorem QcU{H H':Hp}{l:Addr}{xs:List V}(e:H' l=some (.tup xs)):FrV H H' (.ref l):=λl' e1 ⟨ys,e2⟩=>by cases e1;rw[e] at e2;cases e2
theorem ZT{H H':Hp}{i:Int}:FrV H H' (.int i):=λl' e _=>by cases e
theorem Yj{H H':Hp}{i:Bool}:FrV H H' (.bl i):=λl' e _=>by cases e
theorem Qpu{H H':Hp}:FrV H H' .non:=λl' e _=>by cases e
theorem DAs.rep{A:Addr->Prop}{H:Hp}{xs:List V}{ds:List Qa}(q:DAs A H xs ds):∀k:Nat,DAs A H (QY k xs).flatten (QY k ds).flatten
 |0=>.nil
 |k+1=>by rw[Jr,Jr,Zj,Zj];exact q.app (DAs.rep q k)
def Qv7:Qa->Qa->(Qa->Prop)->Prop
 |.int i,.int j,Q=>Q (.int (i+j))
 |.tuple a,.tuple b,Q=>a.length+b.length<=1000000/\Q (.tuple (a++b))
 |.list a,.list b,Q=>a.length+b.length<=1000000/\Q (.list (a++b))
 |_,_,_=>False
def ii0(f:Int->Int->Qa):Qa->Qa->(Qa->Prop)->Prop
 |.int i,.int j,Q=>Q (f i j)
 |_,_,_=>False
def QvV:Qa->Qa->(Qa->Prop)->Prop
 |.int i,.int j,Q=>(CMul i j∨CMulB i j)/\Q (.int (i*j))
 |.list a,.int k,Q=>(k<1000000 /\ -1000000<k/\a.length*k.toNat<=1000000)/\Q (.list (QY k.toNat a).flatten)
 |_,_,_=>False
theorem Qf8:1000000<=sizeLine:=by show 1000000<=2^24;decide
section
variable{X:Cx}{E:XK}
theorem Qfc{g:Int->Int->Int}:OpD (rI0 λi j=>.int (g i j)) (ii0 λi j=>.int (g i j)):=λA P H x y d1 d2 R Q ln dm hx hy h k=>by
 cases d1<;>cases d2<;>first | exact h.elim | skip
 rw[hx.int,hy.int];exact⟨_,_,rfl,rfl,k _ h _ H (Same.refl H) (.int _) ZT⟩
theorem Qax{g:Int->Int->Bool}:OpD (rI0 λi j=>.bl (g i j)) (ii0 λi j=>.bool (g i j)):=λA P H x y d1 d2 R Q ln dm hx hy h k=>by
 cases d1<;>cases d2<;>first | exact h.elim | skip
 rw[hx.int,hy.int];exact⟨_,_,rfl,rfl,k _ h _ H (Same.refl H) (.bl _) Yj⟩
def rAdd:R2:=λx y H Q=>(rI0 (λi j=>.int (i+j)) x y H Q∨QrJ x y H Q)∨Qvd x y H Q
theorem ZJ:OpR X (binaryOp .Add) rAdd:=OpR.or2 (OpR.or2 QdB Qo3) Qsn
theorem Yw:OpD rAdd Qv7:=λA P H x y d1 d2 R Q ln dm hx hy h k=>by
 cases d1<;>cases d2<;>first | exact h.elim | skip
 ·rw[hx.int,hy.int];exact .inl (.inl ⟨_,_,rfl,rfl,k _ h _ H (Same.refl H) (.int _) ZT⟩)
 ·obtain⟨l1,xs,rfl,e1,q1⟩:=hx.list;obtain⟨l2,ys,rfl,e2,q2⟩:=hy.list;refine .inr ⟨l1,l2,xs,ys,rfl,rfl,e1,e2,QV (by rw[q1.length,q2.length];exact h.1) Qf8,λp hp=>?_⟩;exact k _ h.2 _ _ (Js hp) (QdC dm (Js hp) hp Q8 (q1.app q2)) (Qbd hp)
 ·obtain⟨l1,xs,rfl,e1,q1⟩:=hx.tuple;obtain⟨l2,ys,rfl,e2,q2⟩:=hy.tuple;refine .inl (.inr ⟨l1,l2,xs,ys,rfl,rfl,e1,e2,QV (by rw[q1.length,q2.length];exact h.1) Qf8,λp H' s e=>?_⟩);exact k _ h.2 _ _ s (QeX dm s e (q1.app q2)) (QcU e)
def QrE:R2:=λx y H Q=>(rI CMul (λi j=>.int (i*j)) x y H Q∨rI CMulB (λi j=>.int (i*j)) x y H Q)∨Qu2 x y H Q
theorem QaK:OpR X (binaryOp .Mult) QrE:=OpR.or2 (OpR.or2 QdA QoZ) Qsg
theorem Qce:OpD QrE QvV:=λA P H x y d1 d2 R Q ln dm hx hy h k=>by
 cases d1<;>cases d2<;>first | exact h.elim | skip
 ·rw[hx.int,hy.int];rcases h.1 with c | c
  ·exact .inl (.inl ⟨_,_,rfl,rfl,c,k _ h.2 _ H (Same.refl H) (.int _) ZT⟩)
  ·exact .inl (.inr ⟨_,_,rfl,rfl,c,k _ h.2 _ H (Same.refl H) (.int _) ZT⟩)
 ·obtain⟨l1,xs,rfl,e1,q1⟩:=hx.list;rw[hy.int];obtain⟨⟨h1,h2,h3⟩,h4⟩:=h;refine .inr ⟨l1,_,xs,rfl,rfl,e1,by omega,by omega,QV (by rw[q1.length];exact h3) Qf8,λp hp=>?_⟩;exact k _ h4 _ _ (Js hp) (QdC dm (Js hp) hp Q8 (q1.rep _)) (Qbd hp)
def eqD:Qa->Qa->(Qa->Prop)->Prop
 |.int i,.int j,Q=>Q (.bool (decide (i=j)))
 |.bool i,.bool j,Q=>Q (.bool (decide (i=j)))
 |.str i,.str j,Q=>Q (.bool (decide (i=j)))
 |a,b,Q=>(nd a=true/\nd b=true/\(a.depth<=50∨b.depth<=50))/\Q (.bool (Jh a b))
def neD:Qa->Qa->(Qa->Prop)->Prop
 |.int i,.int j,Q=>Q (.bool (!decide (i=j)))
 |.bool i,.bool j,Q=>Q (.bool (!decide (i=j)))
 |.str i,.str j,Q=>Q (.bool (!decide (i=j)))
 |a,b,Q=>(nd a=true/\nd b=true/\(a.depth<=50∨b.depth<=50))/\Q (.bool (!Jh a b))
theorem Qsv{a b:Qa}(h:a.depth<=50∨b.depth<=50):min a.depth b.depth<=50:=by rcases h with h | h<;>omega
def Qvc(u:Nat):R2:=λx y H Q=>rEq x y H Q∨Qvb u x y H Q
def Qu4(u:Nat):R2:=λx y H Q=>rNe x y H Q∨Qu3 u x y H Q
theorem QaL:OpR X (compareOp .Eq) (Qvc X.A.units):=OpR.or2 Qsm QgU
theorem QgS:OpR X (compareOp .NotEq) (Qu4 X.A.units):=OpR.or2 QoY Qsh
theorem QsX{i j:Int}:decide (V.int i=V.int j)=decide (i=j):=by
 by_cases h:i=j
 ·subst h;simp
 ·rw[decide_eq_false h,decide_eq_false (λz=>h (V.int.inj z))]
theorem QsY{i j:Bool}:decide (V.bl i=V.bl j)=decide (i=j):=by
 by_cases h:i=j
 ·subst h;simp
 ·rw[decide_eq_false h,decide_eq_false (λz=>h (V.bl.inj z))]
theorem QsW{i j:Str}:decide (V.str i=V.str j)=decide (i=j):=by
 by_cases h:i=j
 ·subst h;simp
 ·rw[decide_eq_false h,decide_eq_false (λz=>h (V.str.inj z))]
theorem QcK{u:Nat}(hu:u+60<cLine):OpD (Qvc u) eqD:=λA P H x y d1 d2 R Q ln dm hx hy h k=>by
 unfold eqD at h;split at h
 ·rw[hx.int,hy.int];exact .inl ⟨rfl,k (.bool (decide (V.int _=V.int _))) (by rw[QsX];exact h) _ H (Same.refl H) (.bl _) Yj⟩
 ·rw[hx.bool,hy.bool];exact .inl ⟨rfl,k (.bool (decide (V.bl _=V.bl _))) (by rw[QsY];exact h) _ H (Same.refl H) (.bl _) Yj⟩
 ·rw[hx.str.1,hy.str.1];exact .inl ⟨rfl,k (.bool (decide (V.str _=V.str _))) (by rw[QsW];exact h) _ H (Same.refl H) (.bl _) Yj⟩
 ·obtain⟨⟨n1,n2,dp⟩,hR⟩:=h;have:=Qsv dp;exact .inr ⟨_,_,hx.dat n1,hy.dat n2,by omega,k _ hR _ H (Same.refl H) (.bl _) Yj⟩
theorem Qmu{u:Nat}(hu:u+60<cLine):OpD (Qu4 u) neD:=λA P H x y d1 d2 R Q ln dm hx hy h k=>by
 unfold neD at h;split at h
 ·rw[hx.int,hy.int];exact .inl ⟨rfl,k (.bool (!decide (V.int _=V.int _))) (by rw[QsX];exact h) _ H (Same.refl H) (.bl _) Yj⟩
 ·rw[hx.bool,hy.bool];exact .inl ⟨rfl,k (.bool (!decide (V.bl _=V.bl _))) (by rw[QsY];exact h) _ H (Same.refl H) (.bl _) Yj⟩
 ·rw[hx.str.1,hy.str.1];exact .inl ⟨rfl,k (.bool (!decide (V.str _=V.str _))) (by rw[QsW];exact h) _ H (Same.refl H) (.bl _) Yj⟩
 ·obtain⟨⟨n1,n2,dp⟩,hR⟩:=h;have:=Qsv dp;exact .inr ⟨_,_,hx.dat n1,hy.dat n2,by omega,k _ hR _ H (Same.refl H) (.bl _) Yj⟩
def QrI(u:Nat)(neg:Bool):R2:=λx y H Q=>∃c ps ds d,y=.ref c/\H c=some (.lst ps)/\Dats H ps ds/\Dat H x d/\u+d.depth<cLine/\Q (.bl (if neg then !(ds.any λe=>Jh e d) else ds.any λe=>Jh e d)) H
theorem QhN:OpR X (compareOp .NotIn) (QrI X.A.in1.units true):=by
 intro pins s σ H x y v u Q I rx ry h;obtain⟨c,ps,ds,d,rfl,hc,qs,qx,hu,q⟩:=h;cases ry;obtain⟨⟨as,ra⟩,ca⟩:=Yk I.hok d x v qx rx;obtain⟨its,rv,pl,hz⟩:=I.list (SqL.of hc);obtain⟨⟨bs,rb⟩,cb⟩:=Y7 I.hok ds ps its qs rv;refine SeqAt.notIn_listAt (eqH s.heap d) pl.isList (λw hw=>Qf6 ra ca rb cb hu w (QnY.mp hw)) ⟨.bl _,H,I,rfl,?_⟩;rw[show its.toArray.any (eqH s.heap d)=its.any (eqH s.heap d) by simp,Qgq rb cb];exact q
def inD(neg:Bool)(d:Qa):Qa->(Qa->Prop)->Prop
 |.list ds,Q=>(nds ds=true/\nd d=true/\d.depth<=50)/\Q (.bool (if neg then !(ds.any λe=>Jh e d) else ds.any λe=>Jh e d))
 |.tuple ds,Q=>(nds ds=true/\nd d=true/\d.depth<=50)/\Q (.bool (if neg then !(ds.any λe=>Jh e d) else ds.any λe=>Jh e d))
 |_,_=>False
def Qu9(u:Nat)(neg:Bool):R2:=λx y H Q=>Qu8 u neg x y H Q∨QrI u neg x y H Q
theorem Qjt:OpR X (compareOp .NotIn) (Qu9 X.A.in1.units true):=OpR.or2 Qjr QhN
theorem QuB{u:Nat}{neg:Bool}(hu:u+60<cLine):OpD (Qu9 u neg) (inD neg):=λA P H x y d1 d2 R Q ln dm hx hy h k=>by
 cases d2<;>first | exact h.elim | skip
 ·obtain⟨l,xs,rfl,e,q⟩:=hy.list;obtain⟨⟨n1,n2,n3⟩,hR⟩:=h;exact .inr ⟨l,xs,_,d1,rfl,e,Qam _ _ n1 q,hx.dat n2,by omega,k _ hR _ H (Same.refl H) (.bl _) Yj⟩
 ·obtain⟨l,xs,rfl,e,q⟩:=hy.tuple;obtain⟨⟨n1,n2,n3⟩,hR⟩:=h;exact .inl ⟨l,xs,_,d1,rfl,e,Qam _ _ n1 q,hx.dat n2,by omega,k _ hR _ H (Same.refl H) (.bl _) Yj⟩
def Qvj:Qa->Bool
 |.none=>true
 |_=>false
def isD:Qa->Qa->(Qa->Prop)->Prop
 |.bool a,.bool b,Q=>Q (.bool (a == b))
 |a,.none,Q=>Q (.bool (Qvj a))
 |_,_,_=>False
def Qu7:R2:=λx y H Q=>(∃a b,x=.bl a/\y=.bl b/\Q (.bl (a == b)) H)∨(y=.non/\Q (.bl (decide (x=.non))) H)
theorem Qsj:OpR X (compareOp .Is) Qu7:=OpR.or2 Qmi Qju
theorem QsV{A P:Addr->Prop}{H:Hp}{v:V}{d:Qa}(h:DP A P H v d):decide (v=.non)=Qvj d:=by
 rcases h with h | ⟨l,xs,ds',rfl,rfl,_⟩
 ·cases h<;>first | rfl | exact decide_eq_false (λz=>by cases z)
 ·exact decide_eq_false (λz=>by cases z)
theorem QuA:OpD Qu7 isD:=λA P H x y d1 d2 R Q ln dm hx hy h k=>by
 unfold isD at h;split at h
 ·rw[hx.bool,hy.bool];exact .inl ⟨_,_,rfl,rfl,k _ h _ H (Same.refl H) (.bl _) Yj⟩
 ·refine .inr ⟨hy.none,?_⟩;rw[QsV hx];exact k _ h _ H (Same.refl H) (.bl _) Yj
 ·exact h.elim
def ixD:Qa->Qa->(Qa->Prop)->Prop
 |.list ds,.int i,Q=>∃d,atI ds i=some d/\Q d
 |.tuple ds,.int i,Q=>∃d,atI ds i=some d/\Q d
 |_,_,_=>False
theorem QnO{A:Addr->Prop}{H:Hp}{xs:List V}{ds:List Qa}{i:Int}{d:Qa}(q:DAs A H xs ds)(h:atI ds i=some d):∃v,atI xs i=some v/\DA A H v d:=by
 unfold atI at h ⊢;rw[q.length];cases e:ixN ds.length i with
 |none=>rw[e] at h;cases h
 |some j=>
  rw[e] at h;exact q.get j d h
def Qu6(K:PySem.W.Frag):R2:=λx y H Q=>Qtu K x y H Q∨Qu5 K x y H Q
theorem Zx:IxR X (Qu6 X.K):=IxR.or2 Qes QsI
theorem YA{K:PySem.W.Frag}:QpT (Qu6 K) ixD:=λA P H x y d1 d2 R Q ln dm hx hy h k=>by
 cases d1<;>cases d2<;>first | exact h.elim | skip
 ·obtain⟨l,xs,rfl,e,q⟩:=hx.list;obtain⟨d,hd,hR⟩:=h;obtain⟨v,hv,dv⟩:=QnO q hd;rw[hy.int];exact .inl ⟨l,xs,_,v,rfl,rfl,SqL.of e,hv,k d hR v H (Same.refl H) dv⟩
 ·obtain⟨l,xs,rfl,e,q⟩:=hx.tuple;obtain⟨d,hd,hR⟩:=h;obtain⟨v,hv,dv⟩:=QnO q hd;rw[hy.int];exact .inr ⟨l,xs,_,v,rfl,rfl,SqT.of e,hv,k d hR v H (Same.refl H) dv⟩
def dUn(rD:Qa->(Qa->Prop)->Prop)(wa:DE):DE:=λδ Q EX=>wa δ (λd=>rD d Q) EX
def Qvg:Qa->(Qa->Prop)->Prop
 |.int i,Q=>Q (.int (-i))
 |_,_=>False
variable{a b c:QM}{wa wb wc:DE}{pos:Pos}
theorem Qr8(ha:PE X a (tX .P X.K E wa)):PE X (.UnaryOp .USub a pos) (tX .F X.K E (dUn Qvg wa)):=by
 refine PE.imp (Qup Qrh ha) λσ H Q ⟨F,δ,R,EX,rel,hw,k,o⟩=>?_
 refine⟨F,δ,_,EX,rel,hw,λd hd v H' rel' kp vk=>?_,o⟩;cases d<;>first | exact(show False from hd).elim | skip
 exact⟨_,DP.int vk,k _ hd _ H' rel' kp ⟨.int _,ZT⟩⟩
def dCh(p q:Int->Int->Bool)(wa wb wc:DE):DE:=λδ Q EX=>wa δ (λx=>wb δ (λy=>match x,y with
 |.int i,.int j=>if p i j=true then wc δ (λz=>match z with
  |.int k=>Q (.bool (q j k))
  |_=>False) EX else Q (.bool false)
 |_,_=>False) EX) EX
theorem QkE{K:PySem.W.Frag}{p q:Int->Int->Bool}(σ:L2.St)(H:Hp)(Q:VK)(h:tX .F K E (dCh p q wa wb wc) σ H Q) :
  QiI (rI0 λi j=>.bl (p i j)) (rI0 λi j=>.bl (q i j)) (tX .P K E wa) (tX .P K E wb) (tX .P K E wc) σ H Q:=by
 obtain⟨F,δ,R,EX,rel,hw,k,o⟩:=h;refine⟨F,δ,_,EX,rel,hw,λd1 h1 x H1 rel1 kp1 x1=>⟨F,δ,_,EX,rel1,h1,λd2 h2 y H2 rel2 kp2 y2=>?_,o⟩,o⟩;cases d1<;>cases d2<;>first | exact(show False from h2).elim | skip
 rw[DP.int x1,DP.int y2];refine⟨_,_,rfl,rfl,_,rfl,Qa4 h2 (λz=>⟨F,δ,_,EX,rel2,z,λd3 h3 v H3 rel3 kp3 v3=>?_,o⟩) λz=>k _ z _ H2 rel2 (kp1.trans kp2) ⟨.bl _,Yj⟩⟩;cases d3<;>first | exact(show False from h3).elim | skip
 rw[DP.int v3];exact⟨_,_,rfl,rfl,k _ h3 _ H3 rel3 ((kp1.trans kp2).trans kp3) ⟨.bl _,Yj⟩⟩
theorem Quv{op op':Qhw}{p q:Int->Int->Bool}(ho:OpR X (compareOp op) (rI0 λi j=>.bl (p i j)))(ho':OpR X (compareOp op') (rI0 λi j=>.bl (q i j)))(ha:PE X a (tX .P X.K E wa))(hb:PE X b (tX .P X.K E wb))(hc:PE X c (tX .P X.K E wc))(hm:lastMarks [op,op'] [b,c]=false:=by with_unfolding_all rfl) :
  PE X (.Compare a [op,op'] [b,c] pos) (tX .F X.K E (dCh p q wa wb wc)):=PE.imp (QlT ho ho' ha hb hc (hm:=hm)) QkE
theorem Qr1{op op':Qhw}{p q:Int->Int->Bool}(ho:OpR X (compareOp op) (rI0 λi j=>.bl (p i j)))(ho':OpR X (compareOp op') (rI0 λi j=>.bl (q i j)))(ha:PE X a (tX .P X.K E wa))(hb:PE X b (tX .P X.K E wb))(hc:PE X c (tX .P X.K E wc))(hm:lastMarks [op,op'] [b,c]=false:=by with_unfolding_all rfl) :
  PT X (.Compare a [op,op'] [b,c] pos) (tT X.K E (dTst (dCh p q wa wb wc))):=by
 refine PT.imp (QlL ho ho' ha hb hc (hm:=hm)) λσ H Q ⟨F,δ,R,EX,rel,hw,k,o⟩=>?_
 refine QkE σ H (λx H'=>∃k,x=.bl k/\Q k H') ⟨F,δ,_,EX,rel,hw,λd hd2 v H' rel' kp vk=>?_,o⟩;split at hd2
 ·rename_i b
  have:v=.bl b:=by cases vk.1;rfl
  exact⟨b,this,k b hd2 H' rel' kp⟩
 ·exact hd2.elim
def Qvs:DAr:=λ_ Q _=>Q []
def Qkt(we:DE)(wr:DAr):DAr:=λδ Q EX=>we δ (λd=>wr δ (λds=>Q (d::ds)) EX) EX
theorem QoS{m:Md}:PA X [] (tAr 0 m X.K E Qvs):=PA.imp JV λσ H Q ⟨F,δ,R,EX,rel,hw,k,o⟩=>k [] hw rfl [] H rel (Kp.refl rel) .nil
theorem QkU{n:Nat}{m:Md}{K:PySem.W.Frag}{we:DE}{wr:DAr}(hm:∀{F:Fm}{σ:L2.St}{δ:Sts}{H H':Hp}{v:V}{d:Qa},Vok m F σ δ H H' v d->VD m (Av F σ δ) (ZF σ δ) H' v d)(σ:L2.St)(H:Hp)(Q:List V->Hp->Prop)(h:tAr (n+1) m K E (Qkt we wr) σ H Q):QeZ (tX m K E we) (tAr n m K E wr) σ H Q:=by
 obtain⟨F,δ,R,EX,rel,hw,k,o⟩:=h;refine⟨F,δ,_,EX,rel,hw,λd hd v H' rel' kp vk=>⟨F,δ,_,EX,rel',hd,λds hds hl vs H2 rel2 kp2 vks=>?_,o⟩,o⟩;exact k _ hds (by rw[QK,hl]) (v::vs) H2 rel2 (kp.trans kp2) (.cons (kp2.vd (hm vk)) vks)
theorem Qjn{n:Nat}{e:QM}{es:List QM}{we:DE}{wr:DAr}(he:PE X e (tX .D X.K E we))(hr:PA X es (tAr n .D X.K E wr))(hs:notStar e=true:=by rfl):PA X (e::es) (tAr (n+1) .D X.K E (Qkt we wr)):=PA.imp (QfJ he hr hs) (QkU λh=>h)
theorem Qjm{n:Nat}{e:QM}{es:List QM}{we:DE}{wr:DAr}(he:PE X e (tX .P X.K E we))(hr:PA X es (tAr n .P X.K E wr))(hs:notStar e=true:=by rfl):PA X (e::es) (tAr (n+1) .P X.K E (Qkt we wr)):=PA.imp (QfJ he hr hs) (QkU λh=>h)
theorem QbT{A P:Addr->Prop}{H:Hp}:∀{vs:List V}{ds:List Qa},YR (VD .D A P H) vs ds->DAs A H vs ds
 |_,_,.nil=>.nil
 |_,_,.cons a b=>.cons a (QbT b)
def Qvm(w:DAr):DE:=λδ Q EX=>w δ (λds=>Q (.tuple ds)) EX
def Qvt(w:DAr):DE:=λδ Q EX=>w δ (λds=>Q (.list ds)) EX
theorem Qr4{n:Nat}{es:List QM}{w:DAr}{x1}(h:PA X es (tAr n .D X.K E w))(hn:n<=1000:=by decide):PE X (.Tuple es x1 pos) (tX .F X.K E (Qvm w)):=by
 refine PE.imp (Qoy h) λσ H Q ⟨F,δ,R,EX,rel,hw,k,o⟩=>?_
 refine⟨F,δ,_,EX,rel,hw,λds hds hl vs H' rel' kp q=>?_,o⟩;have q':=QbT q;refine⟨by rw[q'.length,hl];exact hn,λa H2 s n e=>k _ hds _ H2 (rel'.same s) (kp.trans (Kp.same rel' s)) ⟨QeX (λa ha=>rel'.isl ha) s e q',QcU e⟩⟩
theorem QaN{σ:L2.St}{δ:Sts}{H H':Hp}{l:Addr}(k:Kp σ δ H H')(n:H' l=none):H l=none:=by
 cases e:H l with
 |none=>rfl
 |some ob=>
  by_cases z:ZF σ δ l
  ·obtain⟨m,em⟩:=k.2 l z;rw[em] at n;cases n
  ·rw[k.1 _ _ z e] at n;cases n
theorem Qr9{n:Nat}{es:List QM}{w:DAr}(h:PA X es (tAr n .D X.K E w))(hn:n<=1000:=by decide):PE X (.List es pos) (tX .F X.K E (Qvt w)):=by
 refine PE.imp (Qoz h) λσ H Q ⟨F,δ,R,EX,rel,hw,k,o⟩=>?_
 refine⟨F,δ,_,EX,rel,hw,λds hds hl vs H' rel' kp q=>?_,o⟩;have q':=QbT q;refine⟨by rw[q'.length,hl];exact hn,λa H2 s n e=>k _ hds _ H2 (rel'.same s) (kp.trans (Kp.same rel' s)) ⟨QdC (λa ha=>rel'.isl ha) s n e q',Qbd (QaN kp n)⟩⟩
def QaA(r:List V->Hp->VK->Prop)(rD:List Qa->(Qa->Prop)->Prop):Prop:=∀(A P:Addr->Prop)(H:Hp)(vs:List V)(ds:List Qa)(R:Qa->Prop)(Q:VK),QbA H->(∀a,A a->∃xs,H a=some (.lst xs))->YR (DP A P H) vs ds->rD ds R ->
 (∀d,R d->∀v H',Same H H'->DA A H' v d->FrV H H' v->Q v H')->r vs H Q
def dCB(rD:List Qa->(Qa->Prop)->Prop)(wa:DAr):DE:=λδ Q EX=>wa δ (λds=>rD ds Q) EX
theorem QkK{n:Nat}{K:PySem.W.Frag}{r:List V->Hp->VK->Prop}{rD:List Qa->(Qa->Prop)->Prop}{wa:DAr}(hd:QaA r rD)(σ:L2.St)(H:Hp)(Q:VK)(h:tX .F K E (dCB rD wa) σ H Q) :
  tCB (λxs H Q=>QbA H->r xs H Q) (tAr n .P K E wa) σ H Q:=by
 obtain⟨F,δ,R,EX,rel,hw,k,o⟩:=h;refine⟨F,δ,_,EX,rel,hw,λds hds hl vs H' rel' kp q ln=>?_,o⟩;refine hd (Av F σ δ) (ZF σ δ) H' vs ds R Q ln (λa ha=>rel'.isl ha) q hds λd hR v H2 s dv fr=>?_
 exact k d hR v H2 (rel'.same s) (kp.trans (Kp.same rel' s)) ⟨dv,λl e1 e2=>QaN kp (fr l e1 e2)⟩
variable{x:Str}{bid T:String}{p:Pos}{e:QM}{es:List QM}{n:Nat}{wr:DAr}{r:List V->Hp->VK->Prop}{rD:List Qa->(Qa->Prop)->Prop}
theorem Qme(hc:CallR X (.builtin bid) r)(hd:QaA r rD)(hg:Gl X x)(hm:X.mg x=none)(hv:bootBuiltins x=some (.builtin bid))(ha:PA X (e::es) (tAr n .P X.K E wr))(hn:x ≠ "__name__" := by decide)(hdb:(x == ("__debug__" : Str))=false:=by decide)
  (he:starEach (e::es) X.env=(false,eval e X.env)::starEach es X.env:=by rfl)(hpl:(backTo pos (starEach es X.env)).any (·.1)=false:=by rfl):PE X (.Call (.Name x p) (e::es) [] pos) (tX .F X.K E (dCB rD wr)):=
 PE.imp (Zg (CallR.len hc) hg hm hv ha hn hdb he hpl) (QkK hd)
theorem Qjo(hc:CallR X (.type T) r)(hd:QaA r rD)(hg:Gl X x)(hm:X.mg x=none)(hv:bootBuiltins x=some (.type T))(ha:PA X (e::es) (tAr n .P X.K E wr))(hn:x ≠ "__name__" := by decide)(hdb:(x == ("__debug__" : Str))=false:=by decide)
  (he:starEach (e::es) X.env=(false,eval e X.env)::starEach es X.env:=by rfl)(hpl:(backTo pos (starEach es X.env)).any (·.1)=false:=by rfl):PE X (.Call (.Name x p) (e::es) [] pos) (tX .F X.K E (dCB rD wr)):=
 PE.imp (Qjh (CallR.len hc) hg hm hv ha hn hdb he hpl) (QkK hd)
theorem pd1{A P:Addr->Prop}{H:Hp}{vs:List V}{d:Qa}(q:YR (DP A P H) vs [d]):∃v,vs=[v]/\DP A P H v d:=by
 cases q with
 |cons a b=>cases b;exact⟨_,rfl,a⟩
theorem pd2{A P:Addr->Prop}{H:Hp}{vs:List V}{d d':Qa}(q:YR (DP A P H) vs [d,d']):∃v v',vs=[v,v']/\DP A P H v d/\DP A P H v' d':=by
 cases q with
 |cons a b=>cases b with | cons b c=>cases c;exact⟨_,_,rfl,a,b⟩
def Qvh:List Qa->(Qa->Prop)->Prop
 |[.list ds],Q=>Q (.int ds.length)
 |[.tuple ds],Q=>Q (.int ds.length)
 |_,_=>False
theorem QaP{K:PySem.W.Frag}:QaA (QrH K) Qvh:=λA P H vs ds R Q ln dm q h k=>by
 unfold Qvh at h;split at h
 ·obtain⟨v,rfl,hv⟩:=pd1 q;obtain⟨l,xs,rfl,e,qq⟩:=hv.list;exact⟨l,xs,rfl,.inl (SqL.of e),by rw[qq.length];exact k _ h _ H (Same.refl H) (.int _) ZT⟩
 ·obtain⟨v,rfl,hv⟩:=pd1 q;obtain⟨l,xs,rfl,e,qq⟩:=hv.tuple;exact⟨l,xs,rfl,.inr (SqT.of e),by rw[qq.length];exact k _ h _ H (Same.refl H) (.int _) ZT⟩
 ·exact h.elim
theorem ZK:CallR X (.builtin "len") (QrH X.K):=Yx
def Qpj:List Qa->(Qa->Prop)->Prop
 |[.int i,.int j],Q=>Q (.int (if j<i then j else i))
 |_,_=>False
def Qpk:List Qa->(Qa->Prop)->Prop
 |[.int i,.int j],Q=>Q (.int (if j > i then j else i))
 |_,_=>False
theorem QkH:QaA (λxs H Q=>∃i j,xs=[.int i,.int j]/\Q (.int (if j<i then j else i)) H) Qpj:=λA P H vs ds R Q ln dm q h k=>by
 unfold Qpj at h;split at h
 ·obtain⟨v,v',rfl,h1,h2⟩:=pd2 q;rw[h1.int,h2.int];exact⟨_,_,rfl,k _ h _ H (Same.refl H) (.int _) ZT⟩
 ·exact h.elim
theorem QkI:QaA (λxs H Q=>∃i j,xs=[.int i,.int j]/\Q (.int (if j > i then j else i)) H) Qpk:=λA P H vs ds R Q ln dm q h k=>by
 unfold Qpk at h;split at h
 ·obtain⟨v,v',rfl,h1,h2⟩:=pd2 q;rw[h1.int,h2.int];exact⟨_,_,rfl,k _ h _ H (Same.refl H) (.int _) ZT⟩
 ·exact h.elim
def QaQ:List Qa->Option (List Bool)
 |[]=>some []
 |.bool b::ds=>(QaQ ds).map (b::·)
 |_::_=>none
def YZ:List Qa->Option (List Int)
 |[]=>some []
 |.int b::ds=>(YZ ds).map (b::·)
 |_::_=>none
theorem Qfw(bs:List Bool):QaQ (bs.map Zi)=some bs:=by
 induction bs with
 |nil=>rfl
 |cons b bs ih=>rw[ZB,QaQ,ih];rfl
theorem ints_map(bs:List Int):YZ (bs.map Qf)=some bs:=by
 induction bs with
 |nil=>rfl
 |cons b bs ih=>rw[ZB,YZ,ih];rfl
theorem bools_eq:∀{ds:List Qa}{bs:List Bool},QaQ ds=some bs->ds=bs.map Zi
 |[],bs,h=>by cases h;rfl
 |d::ds,bs,h=>by
  cases d<;>first | (unfold QaQ at h;cases h;done) | skip
  rw[QaQ] at h;obtain⟨cs,h1,rfl⟩:=JP.mp h;rw[bools_eq h1];rfl
theorem Qbb:∀{ds:List Qa}{bs:List Int},YZ ds=some bs->ds=bs.map Qf
 |[],bs,h=>by cases h;rfl
 |d::ds,bs,h=>by
  cases d<;>first | (unfold YZ at h;cases h;done) | skip
  rw[YZ] at h;obtain⟨cs,h1,rfl⟩:=JP.mp h;rw[Qbb h1];rfl
theorem Qc1{A:Addr->Prop}{H:Hp}:∀{bs:List Bool}{xs:List V},DAs A H xs (bs.map Zi)->xs=bs.map V.bl
 |[],_,.nil=>rfl
 |b::bs,_,.cons (.bl _) r=>by rw[Qc1 r];rfl
theorem Qal{A:Addr->Prop}{H:Hp}:∀{bs:List Int}{xs:List V},DAs A H xs (bs.map Qf)->xs=bs.map V.int
 |[],_,.nil=>rfl
 |b::bs,_,.cons (.int _) r=>by rw[Qal r];rfl
@[irreducible] def QtC:List Qa->(Qa->Prop)->Prop
 |[.list ds],Q=>∃bs,QaQ ds=some bs/\Q (.bool (bs.all id))
 |_,_=>False
theorem QkJ{K:PySem.W.Frag}{cm:Bool}(hc:cm=true):QaA (λxs H Q=>∃(p:Addr)(bs:List Bool),xs=[.ref p]/\SqL K H p (bs.map V.bl)/\cm=true/\Q (.bl (bs.all id)) H) QtC:=λA P H vs ds R Q ln dm q h k=>by
 unfold QtC at h;split at h
 ·obtain⟨v,rfl,hv⟩:=pd1 q;obtain⟨bs,hb,hR⟩:=h;rw[bools_eq hb] at hv;obtain⟨l,xs,rfl,e,qq⟩:=hv.list;rw[Qc1 qq] at e;exact⟨l,bs,rfl,SqL.of e,hc,k _ hR _ H (Same.refl H) (.bl _) Yj⟩
 ·exact h.elim
@[irreducible] def Qmx:List Qa->(Qa->Prop)->Prop
 |[.list ds],Q=>∃ns,YZ ds=some ns/\0<ns.length/\∀m,m∈ns->(∀y∈ns,m<=y)->Q (.int m)
 |_,_=>False
theorem QpM{K:PySem.W.Frag}:QaA (QrF K) Qmx:=λA P H vs ds R Q ln dm q h k=>by
 unfold Qmx at h;split at h
 ·obtain⟨v,rfl,hv⟩:=pd1 q;obtain⟨bs,hb,h0,hR⟩:=h;rw[Qbb hb] at hv;obtain⟨l,xs,rfl,e,qq⟩:=hv.list;rw[Qal qq] at e;exact⟨l,bs,rfl,SqL.of e,h0,λm h1 h2=>k _ (hR m h1 h2) _ H (Same.refl H) (.int _) ZT⟩
 ·exact h.elim
def Qnb:List Qa->(Qa->Prop)->Prop
 |[.list ds],Q=>Q (.tuple ds)
 |[.tuple ds],Q=>Q (.tuple ds)
 |_,_=>False
theorem Qby{K:PySem.W.Frag}:QaA (Qi4 K) Qnb:=λA P H vs ds R Q ln dm q h k=>by
 unfold Qnb at h;split at h
 ·obtain⟨v,rfl,hv⟩:=pd1 q;obtain⟨l,xs,rfl,e,qq⟩:=hv.list;exact⟨l,xs,rfl,.inl ⟨SqL.of e,λl' H' s n e'=>k _ h _ H' s (QeX dm s e' qq) (QcU e')⟩⟩
 ·obtain⟨v,rfl,hv⟩:=pd1 q;obtain⟨l,xs,rfl,e,qq⟩:=hv.tuple;exact⟨l,xs,rfl,.inr ⟨SqT.of e,k _ h _ H (Same.refl H) (QeX dm (Same.refl H) e qq) (QcU e)⟩⟩
 ·exact h.elim
def intD:List Qa->(Qa->Prop)->Prop
 |[.int i],Q=>Q (.int i)
 |[.bool k],Q=>Q (.int (if k then 1 else 0))
 |_,_=>False
theorem QnJ:QaA Qui intD:=λA P H vs ds R Q ln dm q h k=>by
 unfold intD at h;split at h
 ·obtain⟨v,rfl,hv⟩:=pd1 q;rw[hv.int];exact .inl ⟨_,rfl,k _ h _ H (Same.refl H) (.int _) ZT⟩
 ·obtain⟨v,rfl,hv⟩:=pd1 q;rw[hv.bool];exact .inr ⟨_,rfl,k _ h _ H (Same.refl H) (.int _) ZT⟩
 ·exact h.elim
end
section
variable{X:Cx}{E:XK}
inductive Tn where | int | bool | str | tuple | list
def Tn.s:Tn->String
 |.int => "int"
 |.bool => "bool"
 |.str => "str"
 |.tuple => "tuple"
 |.list => "list"
def isT:Tn->Qa->Bool
 |.int,.int _=>true
 |.int,.bool _=>true
 |.bool,.bool _=>true
 |.str,.str _=>true
 |.tuple,.tuple _=>true
 |.list,.list _=>true
 |_,_=>false
theorem Qpo{K:PySem.W.Frag}{A P:Addr->Prop}{H:Hp}{v:V}{d:Qa}(tn:Tn)(h:DP A P H v d):∃t,TyOf K H v t/\PySem.W.kitOne K t (.type tn.s)=some (isT tn d):=by
 rcases h with h | ⟨l,xs,ds,rfl,rfl,_,e,q⟩
 ·cases h with
  |non=>exact⟨_,.non,by cases tn<;>rfl⟩
  |bl b=>exact⟨_,.bl _,by cases tn<;>rfl⟩
  |int i=>exact⟨_,.int _,by cases tn<;>rfl⟩
  |str x c=>exact⟨_,.str _,by cases tn<;>rfl⟩
  |tup n e q=>exact⟨_,.tup e,by cases tn<;>rfl⟩
  |lst n e q=>exact⟨_,.lst e,by cases tn<;>rfl⟩
  |dct n e q=>exact⟨_,.dK e,by cases tn<;>rfl⟩
 ·exact⟨_,.lst e,by cases tn<;>rfl⟩
def Qs6(tn:Tn)(we:DE):DE:=λδ Q EX=>we δ (λd=>Q (.bool (isT tn d))) EX
theorem QoU{e f:QM}{we:DE}{p pos:Pos}(tn:Tn)(hg:Gl X "isinstance")(hm:X.mg "isinstance" = none)(he:PE X e (tX .P X.K E we))(hf:PE X f (tC (.ty tn.s)))(h1:notStar e=true:=by rfl)(h2:notStar f=true:=by rfl) :
  PE X (.Call (.Name "isinstance" p) [e,f] [] pos) (tX .F X.K E (Qs6 tn we)):=by
 refine PE.imp (Zg JZ hg hm JC (QfJ he (QfJ hf JV h2) h1) (he:=Z5 h1) (hpl:=by rw[Z5 h2];rfl)) λσ H Q ⟨F,δ,R,EX,rel,hw,k,o⟩=>?_
 refine⟨F,δ,_,EX,rel,hw,λd hd v H' rel' kp vk=>?_,o⟩;obtain⟨t,ty,et⟩:=Qpo (K:=X.K) tn vk;exact⟨v,t,tn.s,_,rfl,ty,et,k _ hd _ H' rel' kp ⟨.bl _,Yj⟩⟩
theorem Qux{x:Str}{pos:Pos}(tn:Tn)(hg:Gl X x)(hm:X.mg x=none)(hv:bootBuiltins x=some (.type tn.s))(hn:x ≠ "__name__" := by decide)(hd:(x == ("__debug__" : Str))=false:=by decide):PE X (.Name x pos) (tC (.ty tn.s)):=Yz (v:=.ty tn.s) hg hm hv rfl hn hd
abbrev DO:=Sts->(Option Int->Prop)->XP->Prop
def tO(K:PySem.W.Frag)(E:XK)(w:DO):TO:=λσ H Q=>∃(F:Fm)(δ:Sts)(R:Option Int->Prop)(EX:XP),Rel K F σ H δ/\w δ R EX/\(∀d,R d->∀H',Rel K F σ H' δ->Kp σ δ H H'->Q d H')/\Out F E EX
def dNo:DO:=λ_ Q _=>Q none
def dSo(we:DE):DO:=λδ Q EX=>we δ (λd=>match d with
 |.int i=>Q (some i)
 |_=>False) EX
theorem PO.imp{e:Option QM}{t t':TO}(h:PO X e t)(i:∀σ H Q,t' σ H Q->t σ H Q):PO X e t':=λpins s σ H Q I q=>h pins s σ H Q I (i σ H Q q)
theorem Ql6:PO X none (tO X.K E dNo):=PO.imp Qou λσ H Q ⟨F,δ,R,EX,rel,hw,k,o⟩=>k _ hw H rel (Kp.refl rel)
theorem Ql5{e:QM}{we:DE}(he:PE X e (tX .P X.K E we)):PO X (some e) (tO X.K E (dSo we)):=by
 refine PO.imp (Qot he) λσ H Q ⟨F,δ,R,EX,rel,hw,k,o⟩=>?_
 refine⟨F,δ,_,EX,rel,hw,λd hd v H' rel' kp vk=>?_,o⟩;cases d<;>first | exact(show False from hd).elim | skip
 exact⟨_,DP.int vk,k _ hd H' rel' kp⟩
def cutD(xs:List Qa)(lo hi:Option Int):List Qa:=(xs.drop (HT.sIx xs.length 0 lo)).take (HT.sIx xs.length xs.length hi - HT.sIx xs.length 0 lo)
theorem Qkx{A:Addr->Prop}{H:Hp}{xs:List V}{ds:List Qa}(q:DAs A H xs ds)(lo hi:Option Int):DAs A H (Qin xs lo hi) (cutD ds lo hi):=by
 unfold Qin cutD;rw[q.length];exact(q.drop _).take _
def slD(d:Qa)(lo hi:Option Int)(Q:Qa->Prop):Prop:=
 match d with
 |.list ds=>Q (.list (cutD ds lo hi))
 |.tuple ds=>Q (.tuple (cutD ds lo hi))
 |_=>False
def dSl(we:DE)(wl wh:DO):DE:=λδ Q EX=>we δ (λd=>wl δ (λlo=>wh δ (λhi=>slD d lo hi Q) EX) EX) EX
def QrD(K:PySem.W.Frag):V->Option Int->Option Int->Hp->VK->Prop:=λx a b H Q=>Qu1 x a b H Q∨QrC K x a b H Q
theorem Qmb{e:QM}{lo hi:Option QM}{we:DE}{wl wh:DO}{p2 pos:Pos}(he:PE X e (tX .P X.K E we))(hl:PO X lo (tO X.K E wl))(hh:PO X hi (tO X.K E wh)):PE X (.Subscript e (.Slice lo hi none p2) pos) (tX .F X.K E (dSl we wl wh)):=by
 refine PE.imp (QlQ (r:=QrD X.K) (SlR.or2 Qrw Qlq) he hl hh) λσ H Q ⟨F,δ,R,EX,rel,hw,k,o⟩=>?_
 refine⟨F,δ,_,EX,rel,hw,λd hd v H1 rel1 kp1 vk=>⟨F,δ,_,EX,rel1,hd,λa ha H2 rel2 kp2=>⟨F,δ,_,EX,rel2,ha,λb hb H3 rel3 kp3=>?_,o⟩,o⟩,o⟩;have v3:=kp3.dp (kp2.dp vk);have K3:=(kp1.trans kp2).trans kp3;cases d<;>first | exact(show False from hb).elim | skip
 ·obtain⟨l,xs,rfl,e,q⟩:=DP.list v3;exact .inr ⟨l,xs,rfl,SqL.of e,λp H' s n e'=>k _ hb _ H' (rel3.same s) (K3.trans (Kp.same rel3 s)) ⟨QdC (λa ha=>rel3.isl ha) s n e' (Qkx q _ _),Qbd (QaN K3 n)⟩⟩
 ·obtain⟨l,xs,rfl,e,q⟩:=DP.tuple v3;exact .inl ⟨l,xs,rfl,e,λp H' s e'=>k _ hb _ H' (rel3.same s) (K3.trans (Kp.same rel3 s)) ⟨QeX (λa ha=>rel3.isl ha) s e' (Qkx q _ _),QcU e'⟩⟩
abbrev DF:=List Sl->(Qa->Prop)->XP->Prop
def Kq(pt:Addr->Prop)(H H':Hp):Prop:=(∀b o,¬pt b->H b=some o->H' b=some o)/\∀p,pt p->∃n,H' p=some (.lst [.int n])
def JK(fr:Bool)(f:DF):Sp:=λvs H Q Ex=>∃(A pt:Addr->Prop)(args:List Sl)(R:Qa->Prop)(EX:XP),(∀a,A a->∃xs,H a=some (.lst xs))/\(∀p,pt p->A p/\∃n,H p=some (.lst [.int n]))/\YR (Qgu A pt H) vs args/\f args R EX /\
 (∀d,R d->∀v H',Kq pt H H'->DA A H' v d->(fr=true->FrV H H' v)->Q v H')/\∀C,EX C->∀H',Kq pt H H'->Ex (.ref C) none H'
def Qu0:DSl:=λ_ Q _=>Q []
def sV(we:DE)(wr:DSl):DSl:=λδ Q EX=>we δ (λd=>wr δ (λds=>Q (.v d::ds)) EX) EX
def Qud(i:Nat)(wr:DSl):DSl:=λδ Q EX=>match δ[i]? with
 |some .pot=>wr δ (λds=>Q (.pot::ds)) EX
 |_=>False
theorem QoL:PA X [] (tAs X.K E Qu0):=PA.imp JV λσ H Q ⟨F,δ,R,EX,rel,hw,k,o⟩=>k [] hw [] H rel (Kp.refl rel) .nil
theorem Qur{e:QM}{es:List QM}{we:DE}{wr:DSl}(he:PE X e (tX .D X.K E we))(hr:PA X es (tAs X.K E wr))(hs:notStar e=true:=by rfl):PA X (e::es) (tAs X.K E (sV we wr)):=by
 refine PA.imp (QfJ he hr hs) λσ H Q ⟨F,δ,R,EX,rel,hw,k,o⟩=>?_
 refine⟨F,δ,_,EX,rel,hw,λd hd v H' rel' kp vk=>⟨F,δ,_,EX,rel',hd,λds hds vs H2 rel2 kp2 vks=>?_,o⟩,o⟩;exact k _ hds (v::vs) H2 rel2 (kp.trans kp2) (.cons (kp2.da vk) vks)
theorem QoJ{e:QM}{es:List QM}{i:Nat}{wr:DSl}(he:PE X e (QgB i))(hr:PA X es (tAs X.K E wr))(hs:notStar e=true:=by rfl):PA X (e::es) (tAs X.K E (Qud i wr)):=by
 refine PA.imp (QfJ he hr hs) λσ H Q ⟨F,δ,R,EX,rel,hw,k,o⟩=>?_
 unfold Qud at hw;split at hw
 ·rename_i hd
  obtain⟨x,hx⟩:=rel.lt hd;obtain⟨p,n,rfl,e,q⟩:=rel.sl i _ _ hx hd;refine⟨.ref p,hx,F,δ,_,EX,rel,hw,λds hds vs H2 rel2 kp2 vks=>?_,o⟩;exact k _ hds (.ref p::vs) H2 rel2 kp2 (.cons ⟨p,rfl,i,hx,hd⟩ vks)
 ·exact hw.elim
def Qh2(f:DF)(wa:DSl):DE:=λδ Q EX=>wa δ (λargs=>f args Q EX) EX
theorem Kq.kp{K:PySem.W.Frag}{F:Fm}{σ:L2.St}{δ:Sts}{H H':Hp}(k:Kq (ZF σ δ) H H'):Kp σ δ H H':=k
theorem Qc5{m:Md}{fr:Bool}{K:PySem.W.Frag}{f:DF}{wa:DSl}(hm:∀{F:Fm}{σ:L2.St}{δ:Sts}{H H':Hp}{v:V}{d:Qa},DA (Av F σ δ) H' v d->(fr=true->FrV H H' v)->Vok m F σ δ H H' v d)(σ:L2.St)(H:Hp)(Q:VK)(h:tX m K E (Qh2 f wa) σ H Q):QhE (JK fr f) [] E (tAs K E wa) σ H Q:=by
 obtain⟨F,δ,R,EX,rel,hw,k,o⟩:=h;refine⟨F,δ,_,EX,rel,hw,λargs ha vs H1 rel1 kp1 q=>?_,o⟩;show JK fr f (vs++[]) H1 Q E;rw[Zn];refine⟨Av F σ δ,ZF σ δ,args,R,EX,λa ha=>rel1.isl ha,λp hp=>⟨Yn hp,(Kp.refl rel1).2 p hp⟩,q,ha,λd hd v H' kq dv fr=>?_,λC hC H' kq=>o C hC H' (rel1.kp kq).ke⟩;exact k d hd v H' (rel1.kp kq) (kp1.trans kq) (hm dv λz l e1 e2=>QaN kp1 (fr z l e1 e2))
variable{CX:CXT}{k:Nat}{f:Addr}{fd:QB}{ps:List Str}{x:Str}{p pos:Pos}{e:QM}{es:List QM}{fD:DF}{wa:DSl}
theorem QoX(G:FnOk X.prog X.w X.K X.mg X.base CX k f fd ps (JK false fD))(hr:Room k X.A)(hg:Gl X x)(hm:X.mg x=some (.ref f))(hk:PySem.W.keepIn X.K (.ref f)=true)(hb:Binds X.K fd ps [])(hx:Y0 CX X E)
  (ha:PA X (e::es) (tAs X.K E wa))(hdb:(x == ("__debug__" : Str))=false:=by decide)(he:starEach (e::es) X.env=(false,eval e X.env)::starEach es X.env:=by rfl)(hpl:(backTo pos (starEach es X.env)).any (·.1)=false:=by rfl) :
  PE X (.Call (.Name x p) (e::es) [] pos) (tX .D X.K E (Qh2 fD wa)):=PE.imp (QaJ G hr hg hm hk hb .nil hx ha hdb he hpl) (Qc5 λh _=>h)
theorem Qmd(G:FnOk X.prog X.w X.K X.mg X.base CX k f fd ps (JK true fD))(hr:Room k X.A)(hg:Gl X x)(hm:X.mg x=some (.ref f))(hk:PySem.W.keepIn X.K (.ref f)=true)(hb:Binds X.K fd ps [])(hx:Y0 CX X E)
  (ha:PA X (e::es) (tAs X.K E wa))(hdb:(x == ("__debug__" : Str))=false:=by decide)(he:starEach (e::es) X.env=(false,eval e X.env)::starEach es X.env:=by rfl)(hpl:(backTo pos (starEach es X.env)).any (·.1)=false:=by rfl) :
  PE X (.Call (.Name x p) (e::es) [] pos) (tX .F X.K E (Qh2 fD wa)):=PE.imp (QaJ G hr hg hm hk hb .nil hx ha hdb he hpl) (Qc5 λh z=>⟨h,z rfl⟩)
def scal:Qa->Bool
 |.list _=>false
 |.tuple _=>false
 |.dict _=>false
 |_=>true
def QsT:Qa->Bool
 |.list ds=>ds.all scal
 |d=>scal d
theorem QiT{A A':Addr->Prop}{H:Hp}{v:V}{d:Qa}(h:DA A H v d)(s:scal d=true):DA A' H v d:=by
 cases h with
 |non=>exact .non
 |bl b=>exact .bl b
 |int i=>exact .int i
 |str x c=>exact .str x c
 |tup _ _ _=>cases s
 |lst _ _ _=>cases s
 |dct _ _ _=>cases s
theorem QgG{A A':Addr->Prop}{H:Hp}:∀{vs:List V}{ds:List Qa},DAs A H vs ds->ds.all scal=true->DAs A' H vs ds
 |_,_,.nil,_=>.nil
 |_,_,.cons a b,s=>by
  rw[List.all_cons,Jk] at s;exact .cons (QiT a s.1) (QgG b s.2)
def Qkv(f:DF)(wa:DAr):DE:=λδ Q EX=>wa δ (λds=>f (ds.map Sl.v) (λd=>QsT d=true/\Q d) EX) EX
def QuX(P:Addr->Prop)(H:Hp)(vs:List V)(a:Addr):Prop:=V.ref a∈vs/\¬P a
theorem QcP{A P:Addr->Prop}{H:Hp}(ws:List V):∀{vs:List V}{ds:List Qa},(∀v∈vs,v∈ws)->YR (VD .P A P H) vs ds->YR (Qgu (λa=>A a/\¬QuX P H ws a) (λ_=>False) H) vs (ds.map Sl.v)
 |_,_,_,.nil=>.nil
 |v::vs,d::ds,m,.cons a b=>by
  refine .cons ?_ (QcP ws (λv hv=>m v (Jj _ hv)) b)
  rcases a with a | ⟨l,xs,ds,rfl,rfl,n,e,q⟩
  ·exact a.mv (λ_ _ _ e=>e) λa z=>.inl z.1
  ·exact .lst (λz=>z.2 ⟨m _ JM,n⟩) e (q.mv (λ_ _ _ e=>e) λa z=>.inl z.1)
theorem Qh5{n:Nat}{fr:Bool}{K:PySem.W.Frag}{f:DF}{wa:DAr}(hfr:fr=true)(σ:L2.St)(H:Hp)(Q:VK)(h:tX .F K E (Qkv f wa) σ H Q):QhE (JK fr f) [] E (tAr n .P K E wa) σ H Q:=by
 obtain⟨F,δ,R,EX,rel,hw,k,o⟩:=h;refine⟨F,δ,_,EX,rel,hw,λargs ha _ vs H1 rel1 kp1 q=>?_,o⟩;show JK fr f (vs++[]) H1 Q E;rw[Zn];refine⟨λa=>Av F σ δ a/\¬QuX (ZF σ δ) H1 vs a,λ_=>False,args.map Sl.v,_,EX,λa ha=>rel1.isl ha.1,λp hp=>hp.elim,QcP vs (λ_ h=>h) q,ha,λd hd v H' kq dv fr=>?_,λC hC H' kq=>o C hC H' (rel1.same λb o e=>kq.1 b o (λz=>z) e).ke⟩;have s:Same H1 H':=λb o e=>kq.1 b o (λz=>z) e
 have fv:=fr hfr;refine k d hd.2 v H' (rel1.same s) (kp1.trans (Kp.same rel1 s)) ⟨?_,λl e1 e2=>QaN kp1 (fv l e1 e2)⟩;have hf:=hd.1;cases dv with
 |non=>exact .non
 |bl b=>exact .bl b
 |int i=>exact .int i
 |str x c=>exact .str x c
 |tup _ _ _=>cases hf
 |dct _ _ _=>cases hf
 |@lst a xs ds n' e q'=>
  refine .lst (λz=>?_) e (QgG q' hf);obtain⟨ys,e'⟩:=rel1.isl z;rw[fv a rfl ⟨xs,e⟩] at e';cases e'
theorem Qmc{n:Nat}{wr:DAr}(G:FnOk X.prog X.w X.K X.mg X.base CX k f fd ps (JK true fD))(hr:Room k X.A)(hg:Gl X x)(hm:X.mg x=some (.ref f))(hk:PySem.W.keepIn X.K (.ref f)=true)(hb:Binds X.K fd ps [])(hx:Y0 CX X E)
  (ha:PA X (e::es) (tAr n .P X.K E wr))(hdb:(x == ("__debug__" : Str))=false:=by decide)(he:starEach (e::es) X.env=(false,eval e X.env)::starEach es X.env:=by rfl)(hpl:(backTo pos (starEach es X.env)).any (·.1)=false:=by rfl) :
  PE X (.Call (.Name x p) (e::es) [] pos) (tX .F X.K E (Qkv fD wr)):=PE.imp (QaJ G hr hg hm hk hb .nil hx ha hdb he hpl) (Qh5 rfl)
end
abbrev DG:=Qa->Sts->(Sts->Prop)->Prop
def tG(ix:List Nat)(K:PySem.W.Frag)(w:DG):TG:=λv σ H Q=>∃(F:Fm)(δ:Sts)(d:Qa)(R:Sts->Prop),Rel K F σ H δ/\DA (Av F σ δ) H v d/\w d δ R /\
 ∀δ',R δ'->∀σ',Rel K F σ' H δ'->Stp F σ H δ σ' H δ'->σ'.length=σ.length->(∀j,j∉ix->σ'[j]? = σ[j]?)->Q σ' H
theorem ZY{α:Type}{l:List α}{i j:Nat}{x:α}(h:j≠i):(l.set i x)[j]? = l[j]? := QbF (QaB h)
theorem set_eq{α:Type}{l:List α}{i:Nat}{x y:α}(h:(l.set i x)[i]? = some y):y=x:=by
 rw[Qm6] at h;simp only[if_true] at h;split at h
 ·exact(Qq h).symm
 ·cases h
theorem Qc8{F:Fm}{σ:L2.St}{δ:Sts}{i:Nat}{o:Option V}{d:Qa}{a:Addr}(h:Av F (σ.set i o) (δ.set i (.v d)) a):Av F σ δ a:=by
 rcases h with h | ⟨j,h1,h2⟩
 ·exact .inl h
 ·by_cases z:j=i
  ·subst z;rcases h2 with h2 | ⟨ds,h2⟩<;>cases set_eq h2
  ·rw[ZY z] at h1 h2;exact .inr ⟨j,h1,h2⟩
theorem Rel.setv{K:PySem.W.Frag}{F:Fm}{σ:L2.St}{H:Hp}{δ:Sts}(r:Rel K F σ H δ){i:Nat}{v:V}{d:Qa}(q:DA (Av F σ δ) H v d):Rel K F (σ.set i (some v)) H (δ.set i (.v d)) where
 len:=by rw[Zl,Zl];exact r.len
 dom:=r.dom
 dom0:=r.dom0
 pt0:=r.pt0
 kx:=r.kx
 sl:=λj o x h1 h2=>by
  have wk:∀{v:V}{d':Qa},DA (Av F σ δ) H v d'->DA (Av F (σ.set i (some v)) (δ.set i (.v d))) H v d':=λh=>h.mv (λ_ _ _ e=>e) λa z=>.inl (Qc8 z)
  by_cases z:j=i
  ·subst z;cases set_eq h1;cases set_eq h2;exact⟨v,rfl,q.mv (λ_ _ _ e=>e) λa z=>.inl (Qc8 z)⟩
  ·rw[ZY z] at h1 h2;have h:=r.sl j o x h1 h2;cases x with
   |no=>trivial
   |v d=>obtain⟨v',e,q'⟩:=h;exact⟨v',e,q'.mv (λ_ _ _ e=>e) λa z=>.inl (Qc8 z)⟩
   |own ds=>obtain⟨l,xs,e,e2,q',f⟩:=h;exact⟨l,xs,e,e2,q'.mv (λ_ _ _ e=>e) λa z=>.inl (Qc8 z),f⟩
   |pk ds=>obtain⟨l,xs,e,e2,q',f⟩:=h;exact⟨l,xs,e,e2,q'.mv (λ_ _ _ e=>e) λa z=>.inl (Qc8 z),f⟩
   |pot=>exact h
   |scr=>exact h
 inj:=λj k a ds h1 h2 ⟨h3,h4⟩=>by
  by_cases z:j=i
  ·subst z;cases set_eq h1
  ·rw[ZY z] at h1 h2;by_cases z2:k=i
   ·subst z2;rcases h4 with h4 | ⟨ds,h4⟩<;>cases set_eq h4
   ·rw[ZY z2] at h3 h4;exact r.inj j k a ds h1 h2 ⟨h3,h4⟩
theorem Stp.setv{F:Fm}{σ:L2.St}{H:Hp}{δ:Sts}{i:Nat}{o:Option V}{d:Qa}:Stp F σ H δ (σ.set i o) H (δ.set i (.v d)):=⟨λ_ _ _ e=>e,λa z=>.inl (Qc8 z)⟩
def gN(i:Nat):DG:=λd δ Q=>Q (δ.set i (.v d))
def QgF:Sts->List Nat->List Qa->Sts
 |δ,i::is,d::ds=>QgF (δ.set i (.v d)) is ds
 |δ,_,_=>δ
def gTN(is:List Nat):DG:=λd δ Q=>match d with
 |.tuple ds=>ds.length=is.length/\Q (QgF δ is ds)
 |_=>False
section
variable{X:Cx}{E:XK}
theorem PG.imp{e:QM}{t t':TG}(h:PG X e t)(i:∀v σ H Q,t' v σ H Q->t v σ H Q):PG X e t':=λpins s σ H v u Q I r q=>h pins s σ H v u Q I r (i v σ H Q q)
theorem Qma{e:QM}{i:Nat}(h:PG X e (QcT i)):PG X e (tG [i] X.K (gN i)):=PG.imp h λv σ H Q ⟨F,δ,d,R,rel,dv,hw,k⟩=>
 k _ hw _ (rel.setv dv) Stp.setv (Zl ..) λj hj=>ZY λz=>hj (by rw[z];exact Q0.mpr rfl)
def gNs:List Nat->TGs
 |[]=>QuM
 |i::is=>QmM (QcT i) (gNs is)
theorem Qg9{K:PySem.W.Frag}{F:Fm}{H:Hp}{Q:L2.St->Hp->Prop}:∀(is:List Nat)(vs:List V)(ds:List Qa)(σ:L2.St)(δ:Sts),ds.length=is.length->Rel K F σ H δ->DAs (Av F σ δ) H vs ds ->
  (∀σ',Rel K F σ' H (QgF δ is ds)->Stp F σ H δ σ' H (QgF δ is ds)->σ'.length=σ.length->(∀j,j∉is->σ'[j]? = σ[j]?)->Q σ' H)->gNs is vs σ H Q
 |[],vs,ds,σ,δ,hl,rel,q,k=>by
  cases ds with
  |nil=>cases q;exact⟨rfl,k σ rel Stp.refl rfl λ_ _=>rfl⟩
  |cons d ds=>cases hl
 |i::is,vs,ds,σ,δ,hl,rel,q,k=>by
  cases ds with
  |nil=>cases hl
  |cons d ds=>
   cases q with
   |@cons v vs _ _ q qs=>
    refine⟨v,vs,rfl,?_⟩;refine Qg9 is vs ds _ _ (by simpa using hl) (rel.setv q) (qs.mv (λ_ _ _ e=>e) λa z=>.inl (Qc8 z)) λσ' r' st hl' hj=>?_
    refine k σ' r' (Stp.setv.trans st) (by rw[hl',Zl]) λj hn=>?_
    rw[hj j (λz=>hn (Jj _ z)),ZY (λz=>hn (by rw[z];exact JM))]
theorem QoR{e:QM}{n:Nat}{is:List Nat}(h:PG X e (QuL X.K n (gNs is)))(hn:is.length=n:=by rfl):PG X e (tG is X.K (gTN is)):=PG.imp h λv σ H Q ⟨F,δ,d,R,rel,dv,hw,k⟩=>by
 unfold gTN at hw;split at hw
 ·obtain⟨hl,hR⟩:=hw;cases dv with
  |@tup a xs ds na e q=>
   exact⟨a,xs,rfl,SqT.of e,by rw[q.length,hl,hn],Qg9 is xs _ σ δ hl rel q λσ' r' st hl' hj=>k _ hR σ' r' st hl' hj⟩
 ·exact hw.elim
def ItD(A S:Addr->Prop)(J:It)(items:List Qa)(H1:Hp):Prop:=items.length<=sizeLine/\∀(H2:Hp)(A':Addr->Prop),(∀b o,S b->H1 b=some o->H2 b=some o)->(∀b,A' b->A b∨H1 b=none)->(∀a,A' a->∃xs,H2 a=some (.lst xs)) ->
 (∀(i:Nat) d,items[i]? = some d->J.go i H2/\∀x H3,J.yld i H2 x H3->Same H2 H3/\DA A' H3 x d)/\J.stop items.length H2
def Sx(m:Md)(F:Fm)(σ:L2.St)(δ:Sts)(b:Addr):Prop:=
 match m with
 |.P=>¬ZF σ δ b
 |_=>¬Av F σ δ b
abbrev DI:=Sts->(List Qa->Prop)->XP->Prop
def tI(m:Md)(K:PySem.W.Frag)(E:XK)(w:DI):TI:=λσ H R=>∃(F:Fm)(δ:Sts)(R':List Qa->Prop)(EX:XP),Rel K F σ H δ/\w δ R' EX/\(∀items,R' items->∀J H',Rel K F σ H' δ->Kp σ δ H H'->ItD (Av F σ δ) (Sx m F σ δ) J items H'->R J H')/\Out F E EX
theorem PI.imp{tg e:QM}{t t':TI}(h:PI X tg e t)(i:∀σ H R,QbA H->t' σ H R->t σ H R):PI X tg e t':=λpins s σ H R I q=>h pins s σ H R I (i σ H R (Inv.lens I) q)
theorem PI.len{tg e:QM}{t:TI}(h:PI X tg e t):PI X tg e (λσ H R=>t σ H λJ H1=>QbA H1->R J H1):=λpins s σ H R I q=>by
 refine thn (h pins s σ H _ I q) λv s1 h1=>thn h1 λitv s2 h2=>?_
 obtain⟨it,fp,tn,J,H',e,I',T,t0,fo,hR⟩:=h2;exact⟨it,fp,tn,J,H',e,I',T,t0,fo,hR (Inv.lens I')⟩
def Qvv(w:DE):DI:=λδ Q EX=>w δ (λd=>match d with
 |.list ds=>Q ds
 |_=>False) EX
def Qvu(w:DE):DI:=λδ Q EX=>w δ (λd=>match d with
 |.tuple ds=>Q ds
 |_=>False) EX
theorem QaR{A S:Addr->Prop}{H H2:Hp}{A':Addr->Prop}{xs:List V}{ds:List Qa}(sA:∀b,¬A b->S b)(k:∀b o,S b->H b=some o->H2 b=some o)(m:∀b,A' b->A b∨H b=none)(q:DAs A H xs ds):DAs A' H2 xs ds:=q.mv (λa o n e=>k a o (sA a n) e) m
theorem QuF{K:PySem.W.Frag}{A S:Addr->Prop}{H:Hp}{l:Addr}{xs:List V}{ds:List Qa}(sA:∀b,¬A b->S b)(sl:S l)(e:H l=some (.lst xs))(q:DAs A H xs ds)(ln:xs.length<=sizeLine):ItD A S (Itl K l) ds H:=by
 refine⟨by rw[<- q.length];exact ln,λH2 A' k m dm=>⟨λi d hd=>?_,xs,SqL.of (k _ _ sl e),by rw[q.length];exact Qk _⟩⟩;obtain⟨x,hx,dx⟩:=(QaR sA k m q).get i d hd;refine⟨⟨xs,x,SqL.of (k _ _ sl e),hx⟩,λy H3 ⟨e3,hy⟩=>?_⟩;subst e3;have:=hy xs (SqL.of (k _ _ sl e));rw[hx] at this;cases this;exact⟨Same.refl _,dx⟩
theorem QuD{K:PySem.W.Frag}{A S:Addr->Prop}{H:Hp}{l:Addr}{xs:List V}{ds:List Qa}(sA:∀b,¬A b->S b)(sl:S l)(e:H l=some (.tup xs))(q:DAs A H xs ds)(ln:xs.length<=sizeLine):ItD A S (Itt K l) ds H:=by
 refine⟨by rw[<- q.length];exact ln,λH2 A' k m dm=>⟨λi d hd=>?_,xs,SqT.of (k _ _ sl e),by rw[q.length];exact Qk _⟩⟩;obtain⟨x,hx,dx⟩:=(QaR sA k m q).get i d hd;refine⟨⟨xs,x,SqT.of (k _ _ sl e),hx⟩,λy H3 ⟨e3,hy⟩=>?_⟩;subst e3;have:=hy xs (SqT.of (k _ _ sl e));rw[hx] at this;cases this;exact⟨Same.refl _,dx⟩
theorem Qe0{m:Md}{F:Fm}{σ:L2.St}{δ:Sts}{b:Addr}(h:¬Av F σ δ b):Sx m F σ δ b:=by
 cases m
 ·exact h
 ·exact λz=>h (Yn z)
 ·exact h
theorem stL{m:Md}{F:Fm}{σ:L2.St}{δ:Sts}{H H':Hp}{v:V}{ds:List Qa}(h:VD m (Av F σ δ) (ZF σ δ) H v (.list ds)):∃l xs,v=.ref l/\Sx m F σ δ l/\H l=some (.lst xs)/\DAs (Av F σ δ) H xs ds:=by
 cases m
 ·cases h with | @lst a xs _ n e q=>exact⟨a,xs,rfl,n,e,q⟩
 ·rcases h with h | ⟨l,xs,ds',rfl,e,n,e2,q⟩
  ·cases h with | @lst a xs _ n e q=>exact⟨a,xs,rfl,Qe0 n,e,q⟩
  ·cases e;exact⟨l,xs,rfl,n,e2,q⟩
 ·cases h with | @lst a xs _ n e q=>exact⟨a,xs,rfl,n,e,q⟩
theorem stT{m:Md}{F:Fm}{σ:L2.St}{δ:Sts}{H H':Hp}{v:V}{ds:List Qa}(h:VD m (Av F σ δ) (ZF σ δ) H v (.tuple ds)):∃l xs,v=.ref l/\Sx m F σ δ l/\H l=some (.tup xs)/\DAs (Av F σ δ) H xs ds:=by
 cases m
 ·cases h with | @tup a xs _ n e q=>exact⟨a,xs,rfl,n,e,q⟩
 ·rcases h with h | ⟨l,xs,ds',rfl,e,n,e2,q⟩
  ·cases h with | @tup a xs _ n e q=>exact⟨a,xs,rfl,Qe0 n,e,q⟩
  ·cases e
 ·cases h with | @tup a xs _ n e q=>exact⟨a,xs,rfl,n,e,q⟩
theorem Qdn{m:Md}{F:Fm}{σ:L2.St}{δ:Sts}{H H':Hp}{v:V}{d:Qa}(h:Vok m F σ δ H H' v d):VD m (Av F σ δ) (ZF σ δ) H' v d:=by
 cases m
 ·exact h
 ·exact h
 ·exact h.1
variable{m:Md}{tg e e':QM}{w w':DE}{p pos tpos:Pos}
theorem Ql9(h:PE X e (tX m X.K E w)):PI X tg e (tI m X.K E (Qvv w)):=by
 refine PI.imp (PI.len (Qow h)) λσ H R _ ⟨F,δ,R',EX,rel,hw,k,o⟩=>?_
 refine⟨F,δ,_,EX,rel,hw,λd hd v H' rel' kp vk=>?_,o⟩;cases d<;>first | exact(show False from hd).elim | skip
 obtain⟨l,xs,rfl,sl,e,q⟩:=stL (H':=H') (Qdn vk);exact⟨l,rfl,⟨xs,SqL.of e⟩,λln=>k _ hd _ H' rel' kp (QuF (λb=>Qe0) sl e q (ln _ _ (.inl e)))⟩
theorem QoQ(h:PE X e (tX m X.K E w)):PI X tg e (tI m X.K E (Qvu w)):=by
 refine PI.imp (PI.len (QrX h)) λσ H R _ ⟨F,δ,R',EX,rel,hw,k,o⟩=>?_
 refine⟨F,δ,_,EX,rel,hw,λd hd v H' rel' kp vk=>?_,o⟩;cases d<;>first | exact(show False from hd).elim | skip
 obtain⟨l,xs,rfl,sl,e,q⟩:=stT (H':=H') (Qdn vk);exact⟨l,rfl,⟨xs,SqT.of e⟩,λln=>k _ hd _ H' rel' kp (QuD (λb=>Qe0) sl e q (ln _ _ (.inr e)))⟩
def QlC(lo:Int)(n:Nat):List Qa:=(JN n).map λ(i:Nat)=>.int (lo+i)
theorem QfV{lo:Int}{n i:Nat}{d:Qa}(h:(QlC lo n)[i]? = some d):i<n/\d=.int (lo+i):=by
 unfold QlC at h;rw[Qv] at h;by_cases z:i<n
 ·rw[Zm z] at h;exact⟨z,(Qq h).symm⟩
 ·rw[ZU (by rw[Jc];omega)] at h;cases h
theorem QfU{lo:Int}{n:Nat}:(QlC lo n).length=n:=by unfold QlC;rw[Qe,Jc]
theorem QuE{A S:Addr->Prop}{H:Hp}{lo:Int}{n:Nat}(hn:n<=1000000):ItD A S (Itr lo n) (QlC lo n) H:=by
 refine⟨by rw[QfU];exact QV hn Qf8,λH2 A' k m dm=>⟨λi d hd=>?_,by rw[QfU];exact Qk _⟩⟩;obtain⟨hi,rfl⟩:=QfV hd;exact⟨hi,λx H3 ⟨e1,e2⟩=>by subst e1 e2;exact⟨Same.refl _,.int _⟩⟩
def Qs3(w:DE):DI:=λδ Q EX=>w δ (λd=>match d with
 |.int j=>(-1000000<=j/\j<=1000000)/\Q (QlC 0 j.toNat)
 |_=>False) EX
theorem Ql8(hg:Gl X "range")(hm:X.mg "range" = none)(h:PE X e (tX .P X.K E w))(hs:notStar e=true:=by rfl):PI X tg (.Call (.Name "range" p) [e] [] pos) (tI m X.K E (Qs3 w)):=by
 refine PI.imp (Qfb hg hm (QfJ h JV hs) (by rw[Z5 hs];rfl)) λσ H R _ ⟨F,δ,R',EX,rel,hw,k,o⟩=>?_
 refine⟨F,δ,_,EX,rel,hw,λd hd v H' rel' kp vk=>?_,o⟩;cases d<;>first | exact(show False from hd).elim | skip
 obtain⟨⟨h1,h2⟩,hR⟩:=hd;rw[DP.int vk];exact⟨_,rfl,by omega,by omega,k _ hR _ H' rel' kp (QuE (by omega))⟩
theorem QfZ{A':Addr->Prop}{H2:Hp}{r:Addr}{x y:V}{d d':Qa}(dm:∀a,A' a->∃xs,H2 a=some (.lst xs))(n:H2 r=none)(q:DA A' H2 x d)(q':DA A' H2 y d'):DA A' (upd H2 r (.tup [x,y])) (.ref r) (.tuple [d,d']):=
 .tup (λz=>by obtain⟨xs,e⟩:=dm r z;rw[n] at e;cases e) Q8 (.cons (q.same (Js n)) (.cons (q'.same (Js n)) .nil))
def QcY(ds:List Qa):List Qa:=(JN ds.length).map λ(i:Nat)=>.tuple [.int i,ds.getD i .none]
theorem ZO{ds:List Qa}{i:Nat}{d:Qa}(h:(QcY ds)[i]? = some d):∃e,ds[i]? = some e/\d=.tuple [.int i,e]:=by
 unfold QcY at h;rw[Qv] at h;by_cases z:i<ds.length
 ·rw[Zm z] at h;refine⟨ds[i],Qg z,?_⟩;rw[<- Qq h];show ZP [.int i,ds.getD i .none]=_;rw[QD,Qg z];rfl
 ·rw[ZU (by rw[Jc];omega)] at h;cases h
theorem YI{ds:List Qa}:(QcY ds).length=ds.length:=by unfold QcY;rw[Qe,Jc]
def Qvy(w:DE):DI:=λδ Q EX=>w δ (λd=>match d with
 |.list ds=>Q (QcY ds)
 |_=>False) EX
def Qvx(w:DE):DI:=λδ Q EX=>w δ (λd=>match d with
 |.tuple ds=>Q (QcY ds)
 |_=>False) EX
variable{elts:List QM}
theorem Qjl{x1}(hg:Gl X "enumerate")(hm:X.mg "enumerate" = none)(h:PE X e (tX m X.K E w))(hs:notStar e=true:=by rfl):PI X (.Tuple elts x1 tpos) (.Call (.Name "enumerate" p) [e] [] pos) (tI m X.K E (Qvy w)):=by
 refine PI.imp (PI.len (Qox hg hm (QfJ h JV hs) (by rw[Z5 hs];rfl))) λσ H R _ ⟨F,δ,R',EX,rel,hw,k,o⟩=>?_
 refine⟨F,δ,_,EX,rel,hw,λd hd v H' rel' kp vk=>?_,o⟩;cases d<;>first | exact(show False from hd).elim | skip
 obtain⟨l,xs,rfl,sl,e,q⟩:=stL (H':=H') (Qdn vk);refine⟨l,xs,rfl,e,λln=>k _ hd _ H' rel' kp ⟨by rw[YI,<- q.length];exact ln _ _ (.inl e),λH2 A' kk mm dm=>⟨λi d hd'=>?_,xs,kk _ _ sl e,by rw[YI,q.length];exact Qk _⟩⟩⟩;obtain⟨d',hd2,rfl⟩:=ZO hd';obtain⟨x,hx,dx⟩:=(QaR (S:=Sx m F σ δ) (λb=>Qe0) kk mm q).get i d' hd2;refine⟨⟨xs,x,kk _ _ sl e,hx⟩,λy H3 ⟨r,x',nr,hx',e1,e2⟩=>?_⟩;subst e1 e2;have:=hx' xs (kk _ _ sl e);rw[hx] at this;cases this;exact⟨Js nr,QfZ dm nr (.int _) dx⟩
theorem Qjk{x1}(hg:Gl X "enumerate")(hm:X.mg "enumerate" = none)(h:PE X e (tX m X.K E w))(hs:notStar e=true:=by rfl):PI X (.Tuple elts x1 tpos) (.Call (.Name "enumerate" p) [e] [] pos) (tI m X.K E (Qvx w)):=by
 refine PI.imp (PI.len (QlP hg hm (QfJ h JV hs) (by rw[Z5 hs];rfl))) λσ H R _ ⟨F,δ,R',EX,rel,hw,k,o⟩=>?_
 refine⟨F,δ,_,EX,rel,hw,λd hd v H' rel' kp vk=>?_,o⟩;cases d<;>first | exact(show False from hd).elim | skip
 obtain⟨l,xs,rfl,sl,e,q⟩:=stT (H':=H') (Qdn vk);refine⟨l,xs,rfl,e,λln=>k _ hd _ H' rel' kp ⟨by rw[YI,<- q.length];exact ln _ _ (.inr e),λH2 A' kk mm dm=>⟨λi d hd'=>?_,xs,kk _ _ sl e,by rw[YI,q.length]⟩⟩⟩;obtain⟨d',hd2,rfl⟩:=ZO hd';obtain⟨x,hx,dx⟩:=(QaR (S:=Sx m F σ δ) (λb=>Qe0) kk mm q).get i d' hd2;refine⟨⟨xs,x,kk _ _ sl e,hx⟩,λy H3 ⟨r,x',nr,hx',e1,e2⟩=>?_⟩;subst e1 e2;have:=hx' xs (kk _ _ sl e);rw[hx] at this;cases this;exact⟨Js nr,QfZ dm nr (.int _) dx⟩
def Qk5(ds es:List Qa):List Qa:=List.zipWith (λd e=>.tuple [d,e]) ds es
theorem zip_get{ds es:List Qa}{i:Nat}{d:Qa}(h:(Qk5 ds es)[i]? = some d):∃a b,ds[i]? = some a/\es[i]? = some b/\d=.tuple [a,b]:=by
 unfold Qk5 at h;rw[List.getElem?_zipWith] at h;cases h1:ds[i]? with
 |none=>rw[h1] at h;cases h
 |some a=>
  cases h2:es[i]? with
  |none=>rw[h1,h2] at h;cases h
  |some b=>rw[h1,h2] at h;exact⟨a,b,rfl,rfl,(Qq h).symm⟩
theorem Qiw{ds es:List Qa}:(Qk5 ds es).length=min ds.length es.length:=by unfold Qk5;rw[List.length_zipWith]
def Qvl(w w':DE):DI:=λδ Q EX=>w δ (λd=>w' δ (λd'=>match d,d' with
 |.tuple ds,.tuple es=>Q (Qk5 ds es)
 |_,_=>False) EX) EX
theorem Ql7{x1}(hg:Gl X "zip")(hm:X.mg "zip" = none)(h:PE X e (tX m X.K E w))(h':PE X e' (tX m X.K E w'))(hs:notStar e=true:=by rfl)(hs':notStar e'=true:=by rfl):PI X (.Tuple elts x1 tpos) (.Call (.Name "zip" p) [e,e'] [] pos) (tI m X.K E (Qvl w w')):=by
 refine PI.imp (PI.len (Qnr hg hm (QfJ h (QfJ h' JV hs') hs) (by rw[Z5 hs,Z5 hs'];rfl) (hs2:=by rw[Z5 hs'];rfl))) λσ H R _ ⟨F,δ,R',EX,rel,hw,k,o⟩=>?_
 refine⟨F,δ,_,EX,rel,hw,λd hd v H1 rel1 kp1 vk=>⟨F,δ,_,EX,rel1,hd,λd2 hd2 v2 H2 rel2 kp2 vk2=>?_,o⟩,o⟩;cases d<;>cases d2<;>first | exact(show False from hd2).elim | skip
 obtain⟨l,xs,rfl,sl,e,q⟩:=stT (H':=H2) (kp2.vd (Qdn vk));obtain⟨l2,ys,rfl,sl2,e2,q2⟩:=stT (H':=H2) (Qdn vk2);refine⟨l,l2,xs,ys,rfl,e,e2,λln=>k _ hd2 _ H2 rel2 (kp1.trans kp2) ⟨?_,λH3 A' kk mm dm=>⟨λi d hd'=>?_,xs,ys,kk _ _ sl e,kk _ _ sl2 e2,by rw[Qiw,q.length,q2.length];omega⟩⟩⟩
 ·rw[Qiw,<- q.length];exact QV (Nat.min_le_left _ _) (ln _ _ (.inr e))
 obtain⟨a,b,ha,hb,rfl⟩:=zip_get hd';obtain⟨x,hx,dx⟩:=(QaR (S:=Sx m F σ δ) (λb=>Qe0) kk mm q).get i a ha;obtain⟨y,hy,dy⟩:=(QaR (S:=Sx m F σ δ) (λb=>Qe0) kk mm q2).get i b hb;refine⟨⟨xs,ys,x,y,kk _ _ sl e,kk _ _ sl2 e2,hx,hy⟩,λz H4 ⟨r,x',y',nr,hx',hy',e1,e3⟩=>?_⟩;subst e1 e3;have h1:=hx' xs (kk _ _ sl e);have h2:=hy' ys (kk _ _ sl2 e2);rw[hx] at h1;rw[hy] at h2;cases h1;cases h2;exact⟨Js nr,QfZ dm nr dx dy⟩
end
def QpP:Option Sl->Sl
 |some (.v d)=>.v d
 |some (.own ds)=>.pk ds
 |some (.pk ds)=>.pk ds
 |some .pot=>.pot
 |_=>.no
def Qcx(cap:List (Option Nat))(δ:Sts):Sts:=cap.map λo=>match o with
 |none=>.no
 |some j=>QpP δ[j]?
theorem QeB{cap:List (Option Nat)}{σ:L2.St}{i:Nat}{o:Option V}(h:(Qb7 cap σ)[i]? = some o):(cap[i]? = some none/\o=none)∨∃j,cap[i]? = some (some j)/\o=(σ[j]?).getD none:=by
 unfold Qb7 at h;rw[Qv] at h;obtain⟨c,hc,rfl⟩:=JP.mp h;cases c with
 |none=>exact .inl ⟨hc,rfl⟩
 |some j=>exact .inr ⟨j,hc,rfl⟩
theorem QeC{cap:List (Option Nat)}{δ:Sts}{i:Nat}{x:Sl}(h:(Qcx cap δ)[i]? = some x):(cap[i]? = some none/\x=.no)∨∃j,cap[i]? = some (some j)/\x=QpP δ[j]? := by
 unfold Qcx at h;rw[Qv] at h;obtain⟨c,hc,rfl⟩:=JP.mp h;cases c with
 |none=>exact .inl ⟨hc,rfl⟩
 |some j=>exact .inr ⟨j,hc,rfl⟩
theorem YX{cap:List (Option Nat)}{σ:L2.St}{δ:Sts}{i:Nat}{o:Option V}{x:Sl}(h1:(Qb7 cap σ)[i]? = some o)(h2:(Qcx cap δ)[i]? = some x)(hx:x≠.no):∃(j:Nat)(y:Sl),δ[j]? = some y/\x=QpP (some y)/\o=(σ[j]?).getD none:=by
 rcases QeC h2 with⟨_,e⟩ | ⟨j,hj,e⟩
 ·exact absurd e hx
 ·rcases QeB h1 with⟨z,_⟩ | ⟨j',hj',e'⟩
  ·rw[hj] at z;cases z
  ·rw[hj] at hj';cases hj';cases e2:δ[j]? with
   |none=>rw[e2] at e;exact absurd e hx
   |some y=>exact⟨j,y,e2,by rw[e,e2],e'⟩
theorem Qbe{cap:List (Option Nat)}{σ:L2.St}{δ:Sts}{a:Addr}(h:ZF (Qb7 cap σ) (Qcx cap δ) a):ZF σ δ a:=by
 obtain⟨i,h1,h2⟩:=h;obtain⟨j,y,hy,e,eo⟩:=YX h1 h2 (λz=>by cases z);cases y<;>first | (cases e;done) | skip
 refine⟨j,?_,hy⟩;cases e2:σ[j]? with
 |none=>rw[e2] at eo;cases eo
 |some o'=>rw[e2] at eo;exact congrArg some eo.symm
def inF(A1:Addr->Prop)(cap:List (Option Nat))(σ:L2.St)(δ:Sts)(H:Hp):Fm:=⟨H,A1,ZF (Qb7 cap σ) (Qcx cap δ)⟩
theorem Qg7{A1:Addr->Prop}{cap:List (Option Nat)}{σ:L2.St}{δ:Sts}{H:Hp}(h:∀a,ZF σ δ a->A1 a){a:Addr}:Av (inF A1 cap σ δ H) (Qb7 cap σ) (Qcx cap δ) a↔A1 a:=by
 constructor
 ·rintro(z | ⟨i,h1,h2⟩)
  ·exact z
  ·rcases h2 with h2 | ⟨ds,h2⟩
   ·exact h a (Qbe ⟨i,h1,h2⟩)
   ·obtain⟨j,y,hy,e,eo⟩:=YX h1 h2 (λz=>by cases z);cases y<;>cases e
 ·exact .inl
theorem Qka{K:PySem.W.Frag}{F:Fm}{σ:L2.St}{δ:Sts}{H1 H3:Hp}{A1:Addr->Prop}{cap:List (Option Nat)}(rel:Rel K F σ H1 δ)(hA:∀a,Av F σ δ a->A1 a)(hN:∀a,A1 a->Av F σ δ a∨H1 a=none)
  (dm:∀a,A1 a->∃xs,H3 a=some (.lst xs))(kp:Kp σ δ H1 H3):Rel K (inF A1 cap σ δ H3) (Qb7 cap σ) H3 (Qcx cap δ) where
 len:=by unfold Qb7 Qcx;rw[Qe,Qe]
 dom:=dm
 dom0:=dm
 pt0:=λp hp=>⟨hA p (Yn (Qbe hp)),kp.2 p (Qbe hp)⟩
 kx:=λb o _ e=>e
 sl:=λi o x h1 h2=>by
  have iv:∀{a:Addr},Av (inF A1 cap σ δ H3) (Qb7 cap σ) (Qcx cap δ) a->A1 a:=λ{a}=>(Qg7 λa z=>hA a (Yn z)).mp
  have mv:∀{v:V}{d:Qa},DA (Av F σ δ) H1 v d->DA (Av (inF A1 cap σ δ H3) (Qb7 cap σ) (Qcx cap δ)) H3 v d:=λq=>q.mv (λa o n e=>kp.1 a o (λz=>n (Yn z)) e) λa z=>hN a (iv z)
  have mvs:∀{v:List V}{d:List Qa},DAs (Av F σ δ) H1 v d->DAs (Av (inF A1 cap σ δ H3) (Qb7 cap σ) (Qcx cap δ)) H3 v d:=λq=>q.mv (λa o n e=>kp.1 a o (λz=>n (Yn z)) e) λa z=>hN a (iv z)
  cases x with
  |no=>trivial
  |own ds=>
   obtain⟨j,y,hy,e,eo⟩:=YX h1 h2 (λz=>by cases z);cases y<;>cases e
  |scr=>
   obtain⟨j,y,hy,e,eo⟩:=YX h1 h2 (λz=>by cases z);cases y<;>cases e
  |v d=>
   obtain⟨j,y,hy,e,eo⟩:=YX h1 h2 (λz=>by cases z);cases y<;>first | (cases e;done) | skip
   cases e;obtain⟨x,hx⟩:=rel.lt hy;obtain⟨v,rfl,q⟩:=rel.sl j _ _ hx hy;rw[hx] at eo;exact⟨v,eo,mv q⟩
  |pk ds=>
   obtain⟨j,y,hy,e,eo⟩:=YX h1 h2 (λz=>by cases z);cases y<;>first | (cases e;done) | skip
   ·cases e;obtain⟨x,hx⟩:=rel.lt hy;obtain⟨l,xs,rfl,e,q,f⟩:=rel.sl j _ _ hx hy;rw[hx] at eo;have np:=rel.own_pot hy hx;exact⟨l,xs,eo,kp.1 _ _ np e,mvs q,xs,kp.1 _ _ np e,λz=>np (Qbe z)⟩
   ·cases e;obtain⟨x,hx⟩:=rel.lt hy;obtain⟨l,xs,rfl,e,q,ys,f,f2⟩:=rel.sl j _ _ hx hy;rw[hx] at eo;have np:¬ZF σ δ l:=by
     rintro⟨j,j1,j2⟩;obtain⟨p,m,e1,_,w⟩:=rel.sl j _ _ j1 j2;cases e1;rcases w with w | w
     ·exact f2 w
     ·rw[w] at f;cases f
    exact⟨l,xs,eo,kp.1 _ _ np e,mvs q,xs,kp.1 _ _ np e,λz=>np (Qbe z)⟩
  |pot=>
   obtain⟨j,y,hy,e,eo⟩:=YX h1 h2 (λz=>by cases z);cases y<;>first | (cases e;done) | skip
   obtain⟨x,hx⟩:=rel.lt hy;obtain⟨p,n,rfl,e,q⟩:=rel.sl j _ _ hx hy;rw[hx] at eo;obtain⟨m,em⟩:=kp.2 p ⟨j,hx,hy⟩;have eo':o=some (.ref p):=eo;subst eo';exact⟨p,m,rfl,em,.inl ⟨i,h1,h2⟩⟩
 inj:=λi j a ds h1 h2 _=>by
  obtain⟨j,y,hy,e,eo⟩:=YX h2 h1 (λz=>by cases z);cases y<;>cases e
theorem Qlh:∀{σ σ':L2.St},σ'.length=σ.length->(∀(i:Nat) v,σ[i]? = some (some v)->σ'[i]? = some (some v))->Wk σ σ'
 |[],[],_,_=>trivial
 |[],_::_,h,_=>by cases h
 |_::_,[],h,_=>by cases h
 |none::a,x::b,h,g=>Qlh (σ:=a) (σ':=b) (by simpa using h) λi v e=>by simpa using g (i+1) v (by simpa using e)
 |some u::a,x::b,h,g=>by
  have h0:=g 0 u rfl;simp only[Qgx,Option.some.injEq] at h0;subst h0;exact⟨rfl,Qlh (σ:=a) (σ':=b) (by simpa using h) λi v e=>by simpa using g (i+1) v (by simpa using e)⟩
def QaO(cap:List (Option Nat))(ix:List Nat):Bool:=ix.all λi=>match cap[i]? with
 |some none=>true
 |_=>false
theorem QnK{cap:List (Option Nat)}{ix:List Nat}(hf:QaO cap ix=true){σ σ4:L2.St}(hl:σ4.length=(Qb7 cap σ).length)(hj:∀j,j∉ix->σ4[j]? = (Qb7 cap σ)[j]?):Wk (Qb7 cap σ) σ4:=by
 refine Qlh hl λi v e=>?_
 by_cases z:i∈ix
 ·have:=Q7.mp hf i z;rcases QeB e with⟨_,e2⟩ | ⟨j,hj2,_⟩
  ·cases e2
  ·rw[hj2] at this;cases this
 ·rw[hj i z];exact e
def XF:XP:=λ_=>False
@[irreducible] def Qgt(items:List Qa)(wg:DG)(wt:DT)(we:DE)(δ:Sts)(Q:Qa->Prop):Prop:=∃Iv:Nat->List Qa->Prop,Iv 0 [] /\
 (∀(i:Nat) acc d,items[i]? = some d->Iv i acc->wg d δ λδ4=>wt δ4 (λb=>if b=true then we δ4 (λe=>Iv (i+1) (acc++[e])) XF else Iv (i+1) acc) XF)/\∀acc,Iv items.length acc->Q (.list acc)
def dComp(cap:List (Option Nat))(wi:DI)(wg:DG)(wt:DT)(we:DE):DE:=λδ Q EX=>wi δ (λitems=>Qgt items wg wt we (Qcx cap δ) Q) EX
def Qp6:DT:=λ_ Q _=>Q true
section
variable{X:Cx}{E:XK}
theorem Qmf{F:Fm}{E:XK}:Out F E XF:=λ_ z=>z.elim
theorem PTs.imp{es:List QM}{t t':TT}(h:PTs X es t)(i:∀σ H Q,t' σ H Q->t σ H Q):PTs X es t':=λpins s σ H Q I q=>h pins s σ H Q I (i σ H Q q)
theorem QlX:PTs X [] (tT X.K E Qp6):=PTs.imp Qja λσ H Q ⟨F,δ,R,EX,rel,hw,k,o⟩=>k _ hw H rel (Kp.refl rel)
theorem QlW{c:QM}{t:DT}(h:PT X c (tT X.K E t)):PTs X [c] (tT X.K E t):=Qor h
theorem Qgb{K:PySem.W.Frag}{A1:Addr->Prop}{cap:List (Option Nat)}{σ σ4:L2.St}{δ δ4:Sts}{H3 H4:Hp}(r:Rel K (inF A1 cap σ δ H3) σ4 H4 δ4)(hk:∀b o,¬ZF σ δ b->H4 b=some o->H3 b=none->False){b:Addr}(h:ZF σ4 δ4 b):ZF σ δ b:=by
 obtain⟨i,h1,h2⟩:=h;obtain⟨p,n,e,hp,w⟩:=r.sl i _ _ h1 h2;cases e;rcases w with w | w
 ·exact Qbe w
 ·by_cases z:ZF σ δ b
  ·exact z
  ·exact(hk b _ z hp w).elim
theorem QiC{K:PySem.W.Frag}{F:Fm}{σ:L2.St}{δ:Sts}{H1 H3:Hp}{cap:List (Option Nat)}{ix:List Nat}{wg:DG}{wt:DT}{A1:Addr->Prop}{x:V}{d:Qa}{inner:L2.St->Hp->(Hp->Prop)->Prop}{kk:Hp->Prop}{T:Sts->Prop}{N:Prop}
  (hf:QaO cap ix=true)(rel:Rel K F σ H1 δ)(hA:∀a,Av F σ δ a->A1 a)(hN:∀a,A1 a->Av F σ δ a∨H1 a=none)(dm:∀a,A1 a->∃xs,H3 a=some (.lst xs))(kp:Kp σ δ H1 H3)(dx:DA A1 H3 x d)
  (h:wg d (Qcx cap δ) λδ4=>wt δ4 (λb=>if b=true then T δ4 else N) XF)
  (hT:∀σ4 δ4 H5,T δ4->Rel K (inF A1 cap σ δ H3) σ4 H5 δ4->Kp σ δ H3 H5->(∀b,ZF σ4 δ4 b->ZF σ δ b)->inner σ4 H5 kk)(hF:N->∀H5,Kp σ δ H3 H5->kk H5) :
  bOf (Qb7 cap σ) (tG ix K wg) (tT K E0 wt) inner x H3 kk:=by
 have ri:=Qka (cap:=cap) rel hA hN dm kp;have iv:∀{a:Addr},Av (inF A1 cap σ δ H3) (Qb7 cap σ) (Qcx cap δ) a->A1 a:=λ{a}=>(Qg7 λa z=>hA a (Yn z)).mp
 refine⟨inF A1 cap σ δ H3,Qcx cap δ,d,_,ri,dx.mv (λ_ _ _ e=>e) λa z=>.inl (iv z),h,λδ4 h4 σ4 r4 st4 l4 j4=>⟨QnK hf l4 j4,inF A1 cap σ δ H3,δ4,_,XF,r4,h4,λb hb H5 r5 kp5=>?_,Qmf⟩⟩;have pots:∀{b:Addr},ZF σ4 δ4 b->ZF σ δ b:=λz=>Qgb r4 (λb o _ e1 e2=>by rw[e2] at e1;cases e1) z
 have K5:Kp σ δ H3 H5:=by
  refine⟨λb o n e=>kp5.1 b o (λz=>n (pots z)) e,λb hb=>?_⟩;by_cases z:ZF σ4 δ4 b
  ·exact kp5.2 b z
  ·obtain⟨n,e⟩:=kp.2 b hb;exact⟨n,kp5.1 _ _ z e⟩
 exact Qa4 hb (λz=>hT σ4 δ4 H5 z r5 K5 λb=>pots) λz=>hF z H5 K5
structure Lp (σ:L2.St) (δ:Sts) (A1:Addr->Prop) (p:Addr) (H1 H2:Hp) (acc:List Qa):Prop where
 kp:Kp σ δ H1 H2
 at_:∃ys,H2 p=some (.lst ys)/\DAs A1 H2 ys acc
theorem Lp.step{σ:L2.St}{δ:Sts}{A1:Addr->Prop}{p:Addr}{H1 H2 H3:Hp}{acc:List Qa}(hpA:∀a,ZF σ δ a->A1 a)(hpn:¬ZF σ δ p)(h:Lp σ δ A1 p H1 H2 acc)(k:Kp σ δ H2 H3):Lp σ δ A1 p H1 H3 acc:=by
 obtain⟨ys,e,q⟩:=h.at_;exact⟨h.kp.trans k,ys,k.1 _ _ hpn e,q.mv (λa o n e=>k.1 a o (λz=>n (hpA a z)) e) λa z=>.inl z⟩
theorem QnG{K:PySem.W.Frag}{σ σ4:L2.St}{δ δ4:Sts}{H1 H3 H5:Hp}{cap:List (Option Nat)}{we:DE}{A1:Addr->Prop}{p:Addr}{acc:List Qa}{kk:Hp->Prop}{G:Qa->Prop}
  (hpA:A1 p)(hP:∀a,ZF σ δ a->A1 a)(hp1:H1 p=none)(hpn:¬ZF σ δ p)(lp:Lp σ δ A1 p H1 H5 acc)(hl:acc.length<sizeLine)(r5:Rel K (inF A1 cap σ δ H3) σ4 H5 δ4)(pots:∀b,ZF σ4 δ4 b->ZF σ δ b)
  (h:we δ4 G XF)(hk:∀e,G e->∀H',Lp σ δ A1 p H1 H' (acc++[e])->kk H'):Qp7 p (tX .D K E0 we) σ4 H5 kk:=by
 refine⟨inF A1 cap σ δ H3,δ4,G,XF,r5,h,λe he v H6 r6 kp6 dv=>?_,Qmf⟩;have k56:Kp σ δ H5 H6:=by
  refine⟨λb o n e=>kp6.1 b o (λz=>n (pots b z)) e,λb hb=>?_⟩;by_cases z:ZF σ4 δ4 b
  ·exact kp6.2 b z
  ·obtain⟨n,e⟩:=lp.kp.2 b hb;exact⟨n,kp6.1 _ _ z e⟩
 obtain⟨k6,ys,e6,q6⟩:=lp.step hP hpn k56;have up:∀{b:Addr}{o:HO},¬A1 b->H6 b=some o->upd H6 p (.lst (ys++[v])) b=some o:=λ{b o} n e=>by rw[Q5 (λz=>n (by rw[z];exact hpA))];exact e
 refine⟨ys,e6,by rw[q6.length];exact hl,hk e he _ ⟨⟨λb o n e=>?_,λb hb=>?_⟩,ys++[v],Q8,DAs.app (q6.mv (λ_ _=>up) λa z=>.inl z) (.cons (DA.mv dv (λa o n e=>up (λz=>n (.inl z)) e) λa z=>.inl (.inl z)) .nil)⟩⟩
 ·rw[Q5 (λz=>by rw[z,hp1] at e;cases e)];exact k6.1 b o n e
 ·rw[Q5 (λz=>hpn (by rw[<- z];exact hb))];exact k6.2 b hb
theorem QoV{M:List Str}{cap:List (Option Nat)}{elt tg iter:QM}{ifs:List QM}{scope:Z3}{pos:Pos}{ix:List Nat}{wi:DI}{wg:DG}{wt:DT}{we:DE}(hc:X.calm=true)(ok:Qdk X.N X.env.scope M scope cap=true)(hf:QaO cap ix=true)
  (hi:PI X tg iter (tI .P X.K E wi))(hb:∀cl ex s3 H3 C,PG (blk X M scope cl ex s3 H3 C) tg (tG ix X.K wg)/\PTs (blk X M scope cl ex s3 H3 C) ifs (tT X.K E0 wt)/\PE (blk X M scope cl ex s3 H3 C) elt (tX .D X.K E0 we))
  (hs:∀x,foldedSetIterable iter X.env x=pure x:=by intro _;rfl):PE X (.ListComp elt [⟨tg,iter,ifs,0⟩] scope pos) (tX .F X.K E (dComp cap wi wg wt we)):=by
 refine PE.imp (QgQ hc ok hi hb hs) λσ H Q ⟨F,δ,R,EX,rel,hw,k,o⟩=>?_
 refine⟨F,δ,_,EX,rel,hw,λitems hC J H1 rel1 kp1 ⟨ln,it⟩ p hp=>?_,o⟩;unfold Qgt at hC;obtain⟨Iv,i0,step,fin⟩:=hC;have hpn:¬ZF σ δ p:=λz=>by obtain⟨xs,e⟩:=rel1.isl (Yn (F:=F) z);rw[hp] at e;cases e
 let A1:Addr->Prop:=λa=>Av F σ δ a∨a=p
 have hP:∀a,ZF σ δ a->A1 a:=λa z=>.inl (Yn z)
 have hN:∀a,A1 a->Av F σ δ a∨H1 a=none:=λa z=>z.elim .inl λz=>.inr (by rw[z];exact hp)
 have dmK:∀{H2:Hp},Kp σ δ H1 H2->(∃ys,H2 p=some (.lst ys))->∀a,A1 a->∃xs,H2 a=some (.lst xs):=λ{H2} k2 e2 a z=>by
  rcases z with z | z
  ·exact(rel1.kp k2).isl z
  ·rw[z];exact e2
 refine QcO items.length (λi H2=>i<=items.length/\∃acc,Iv i acc/\acc.length<=i/\Lp σ δ A1 p H1 H2 acc) ⟨Jn _,[],i0,Qk _,Kp.same rel1 (Js hp),[],Q8,.nil⟩ (λi H2 hi ⟨_,acc,iv,hl,lp⟩=>?_) λH2 ⟨_,acc,iv,hl,lp⟩=>?_
 ·obtain⟨k2,ys,e2,q2⟩:=lp;obtain⟨go,_⟩:=it H2 A1 (λb o n e=>k2.1 b o n e) hN (dmK k2 ⟨ys,e2⟩);have hd:items[i]? = some items[i]:=Qg hi;obtain⟨g1,g2⟩:=go i _ hd;refine⟨g1,λx H3 y kk hk=>?_⟩;obtain⟨s3,dx⟩:=g2 x H3 y;have k23:=Kp.same (rel1.kp k2) s3;have lp3:Lp σ δ A1 p H1 H3 acc:=Lp.step hP hpn ⟨k2,ys,e2,q2⟩ k23;refine QiC hf rel1 (λa z=>.inl z) hN (dmK lp3.kp ⟨ys,s3 _ _ e2⟩) lp3.kp dx (step i acc _ hd iv) (λσ4 δ4 H5 h5 r5 k5 pots=>?_) λh5 H5 k5=>hk _ ⟨hi,acc,h5,by omega,lp3.step hP hpn k5⟩
  exact QnG (.inr rfl) hP hp hpn (lp3.step hP hpn k5) (by omega) r5 pots h5 λe he H' lp'=>hk _ ⟨hi,acc++[e],he,by rw[QC];show _+1<=_;omega,lp'⟩
 ·obtain⟨k2,ys,e2,q2⟩:=lp;obtain⟨_,st⟩:=it H2 A1 (λb o n e=>k2.1 b o n e) hN (dmK k2 ⟨ys,e2⟩);refine⟨st,k _ (fin acc iv) (.ref p) H2 (rel1.kp k2) (kp1.trans k2) ⟨.lst (λz=>?_) e2 (q2.mv (λ_ _ _ e=>e) λa z=>.inl (.inl z)),λl e1 _=>?_⟩⟩
  ·obtain⟨xs,e⟩:=rel1.isl z;rw[hp] at e;cases e
  ·cases e1;exact QaN kp1 hp
theorem QkA{items:List Qa}{wg:DG}{wt:DT}{we:DE}{δ:Sts}{Q:Qa->Prop}(G:Qa->Option Qa)
  (h:∀d∈items,∀(k1:Prop)(k2:Qa->Prop),(G d=none->k1)->(∀e,G d=some e->k2 e)->wg d δ λδ4=>wt δ4 (λb=>if b=true then we δ4 k2 XF else k1) XF)(q:Q (.list (items.filterMap G))) :
  Qgt items wg wt we δ Q:=by
 unfold Qgt;refine⟨λi acc=>acc=(items.take i).filterMap G,by simp,λi acc d hd e=>?_,λacc e=>by rw[e,JF];exact q⟩;have hs:(items.take (i+1)).filterMap G=(items.take i).filterMap G++(G d).toList:=by
  rw[JH,hd,Qih];cases e2:G d<;>simp[e2]
 have e:acc=(items.take i).filterMap G:=e;refine h d (Qt hd) _ _ (λe2=>?_) λe' e2=>?_
 ·show acc=(items.take (i+1)).filterMap G;rw[hs,e2,e];simp
 ·show acc++[e']=(items.take (i+1)).filterMap G;rw[hs,e2,e];rfl
theorem Qa5{items:List Qa}{wg:DG}{we:DE}{δ:Sts}{Q:Qa->Prop}(G:Qa->Qa)
  (h:∀d∈items,∀(k2:Qa->Prop),k2 (G d)->wg d δ λδ4=>we δ4 k2 XF)(q:Q (.list (items.map G))) :
  Qgt items wg Qp6 we δ Q:=by
 unfold Qgt;refine⟨λi acc=>acc=(items.take i).map G,by simp,λi acc d hd e=>?_,λacc e=>by rw[e,JF];exact q⟩;have hs:(items.take (i+1)).map G=(items.take i).map G++[G d]:=by
  rw[JH,hd,Jf];simp
 have e:acc=(items.take i).map G:=e;have hh:=h d (Qt hd) (λe=>acc++[e]=(items.take (i+1)).map G) (by show acc++[G d]=_;rw[hs,e]);simp only[Qp6,if_true];exact hh
end
theorem Qkm:∀{a b:List (Int×Int)},dkV a=dkV b->a=b
 |[],[],_=>rfl
 |[],_::_,h=>by cases h
 |_::_,[],h=>by cases h
 |p::a,q::b,h=>by
  have h:=List.cons.inj (show(Qbk p.1,V.int p.2)::dkV a=(Qbk q.1,V.int q.2)::dkV b from h);have h1:=Qhs h.1;rw[Qkm h.2,Prod.ext (Qrb h1.1) (V.int.inj h1.2)]
mutual
theorem Qkr{A B:Addr->Prop}{H:Hp}:∀(d d':Qa)(x:V),DA A H x d->DA B H x d'->d=d'
 |.none,d',_,.non,h=>by cases h;rfl
 |.bool _,d',_,.bl _,h=>by cases h;rfl
 |.int _,d',_,.int _,h=>by cases h;rfl
 |.str _,d',_,.str _ _,h=>by cases h;rfl
 |.tuple ds,d',_,.tup (xs:=xs) n e q,h=>by
  cases h with
  |@tup a ys es n' e' q'=>
   rw[e] at e';cases e';rw[Qex ds es xs q q']
  |@lst a ys es n' e' q'=>rw[e] at e';cases e'
  |@dct a kvs' ds' n' e' q'=>rw[e] at e';cases e'
 |.list ds,d',_,.lst (xs:=xs) n e q,h=>by
  cases h with
  |@tup a ys es n' e' q'=>rw[e] at e';cases e'
  |@lst a ys es n' e' q'=>
   rw[e] at e';cases e';rw[Qex ds es xs q q']
  |@dct a kvs' ds' n' e' q'=>rw[e] at e';cases e'
 |.dict _,d',_,.dct (kvs:=kvs) n e q,h=>by
  cases h with
  |@tup a ys es n' e' q'=>rw[e] at e';cases e'
  |@lst a ys es n' e' q'=>rw[e] at e';cases e'
  |@dct a kvs' ds' n' e' q'=>
   rw[e] at e';rw[q,q',Qkm (HO.dK.inj (Qq e'))]
theorem Qex{A B:Addr->Prop}{H:Hp}:∀(ds es:List Qa)(xs:List V),DAs A H xs ds->DAs B H xs es->ds=es
 |[],es,_,.nil,h=>by cases h;rfl
 |d::ds,es,_,.cons q qs,h=>by
  cases h with
  |@cons x xs e es q' qs'=>rw[Qkr d e _ q q',Qex ds es _ qs qs']
end
mutual
theorem QsZ{A:Addr->Prop}{H:Hp}{l:Addr}{rs:List Qa}(root:DA A H (.ref l) (.list rs)):∀(d:Qa)(x:V),sizeOf d<sizeOf (Qdl rs)->DA A H x d->DA (λa=>A a∨a=l) H x d
 |.none,_,_,.non=>.non
 |.bool _,_,_,.bl _=>.bl _
 |.int _,_,_,.int _=>.int _
 |.str _,_,_,.str _ c=>.str _ c
 |.tuple ds,_,hs,.tup (a:=a) (xs:=xs) n e q=>.tup (λz=>z.elim n λz=>by subst z;cases root with | @lst _ ys _ n' e' q'=>(rw[e] at e';cases e')) e (Qey root ds xs (by simp at hs ⊢;omega) q)
 |.list ds,_,hs,.lst (a:=a) (xs:=xs) n e q=>.lst (λz=>z.elim n λz=>by
   subst z;have:=Qkr _ _ _ root (.lst n e q);rw[this] at hs;omega) e (Qey root ds xs (by simp at hs ⊢;omega) q)
 |.dict _,_,hs,.dct (a:=a) n e q=>.dct (λz=>z.elim n λz=>by subst z;cases root with | @lst _ ys _ n' e' q'=>(rw[e] at e';cases e')) e q
theorem Qey{A:Addr->Prop}{H:Hp}{l:Addr}{rs:List Qa}(root:DA A H (.ref l) (.list rs)):∀(ds:List Qa)(xs:List V),sizeOf ds<sizeOf (Qdl rs)->DAs A H xs ds->DAs (λa=>A a∨a=l) H xs ds
 |[],_,_,.nil=>.nil
 |d::ds,_,hs,.cons q qs=>.cons (QsZ root d _ (by simp at hs ⊢;omega) q) (Qey root ds _ (by simp at hs ⊢;omega) qs)
end
theorem DA.items{A:Addr->Prop}{H:Hp}{l:Addr}{ds:List Qa}(root:DA A H (.ref l) (.list ds)):∃xs,H l=some (.lst xs)/\DAs (λa=>A a∨a=l) H xs ds:=by
 have root':=root;cases root with
 |@lst _ xs _ n e q=>exact⟨xs,e,Qey root' ds xs (by simp) q⟩
structure Qc9 where
 nx:Sts->Prop
 rt:Qa->Prop
 rtF:Qa->Prop
 bk:Sts->Prop
 ct:Sts->Prop
 ex:XP
abbrev DS:=Qc9->Sts->Prop
structure Nx (K:PySem.W.Frag) (F:Fm) (σ:L2.St) (H:Hp) (δ:Sts) (R:Sts->Prop) (T:L2.St->Hp->Prop):Prop where
 go:∀δ',R δ'->∀σ' H',Rel K F σ' H' δ'->Stp F σ H δ σ' H' δ'->T σ' H'
structure Ends1 (K:PySem.W.Frag) (E:XK) (F:Fm) (σ:L2.St) (H:Hp) (δ:Sts) (DD:Qc9) (D:Ends):Prop where
 nx:Nx K F σ H δ DD.nx D.nx
 rt:∀d,DD.rt d->∀v H',Ke F H'->DA F.A0 H' v d->D.rt v H'
 rtF:∀d,DD.rtF d->∀v H',Ke F H'->DA F.A0 H' v d->FrV F.H0 H' v->D.rt v H'
 bk:Nx K F σ H δ DD.bk D.bk
 ct:Nx K F σ H δ DD.ct D.ct
 ex:Out F E DD.ex
def tS(K:PySem.W.Frag)(E:XK)(w:DS):TS:=λD σ H=>∃(F:Fm)(δ:Sts)(DD:Qc9),Rel K F σ H δ/\w DD δ/\Ends1 K E F σ H δ DD D
theorem Nx.step{K:PySem.W.Frag}{F:Fm}{σ σ1:L2.St}{H H1:Hp}{δ δ1:Sts}{R:Sts->Prop}{T:L2.St->Hp->Prop}(h:Nx K F σ H δ R T)(s:Stp F σ H δ σ1 H1 δ1):Nx K F σ1 H1 δ1 R T:=⟨λδ' hR σ' H' r st=>h.go δ' hR σ' H' r (s.trans st)⟩
theorem Ends1.step{K:PySem.W.Frag}{E:XK}{F:Fm}{σ σ1:L2.St}{H H1:Hp}{δ δ1:Sts}{DD:Qc9}{D:Ends}(h:Ends1 K E F σ H δ DD D)(s:Stp F σ H δ σ1 H1 δ1):Ends1 K E F σ1 H1 δ1 DD D:=⟨h.nx.step s,h.rt,h.rtF,h.bk.step s,h.ct.step s,h.ex⟩
section
variable{X:Cx}{E:XK}
theorem PS.imp{e:ZH}{t t':TS}(h:PS X e t)(i:∀D σ H,t' D σ H->t D σ H):PS X e t':=λpins s σ H D I q=>h pins s σ H D I (i D σ H q)
theorem PSs.imp{e:List ZH}{t t':TS}(h:PSs X e t)(i:∀D σ H,t' D σ H->t D σ H):PSs X e t':=λpins s σ H D I q=>h pins s σ H D I (i D σ H q)
def Qvn(a b:DS):DS:=λD δ=>a { D with nx:=b D } δ
def Qs1:DS:=λD δ=>D.nx δ
theorem QlY:PSs X [] (tS X.K E Qs1):=PSs.imp QaI λD σ H ⟨F,δ,DD,rel,hw,en⟩=>en.nx.go δ hw σ H rel Stp.refl
theorem QoK{st:ZH}{w:DS}(h:PS X st (tS X.K E w)):PSs X [st] (tS X.K E w):=Yi h
theorem Ql3{st:ZH}{rest:List ZH}{w w':DS}(h:PS X st (tS X.K E w))(h':PSs X rest (tS X.K E w')):PSs X (st::rest) (tS X.K E (Qvn w w')):=by
 refine PSs.imp (ZD h h') λD σ H ⟨F,δ,DD,rel,hw,en⟩=>?_
 exact⟨F,δ,_,rel,hw,⟨λδ' h' σ' H' r st=>⟨F,δ',DD,r,h',en.step st⟩⟩,en.rt,en.rtF,en.bk,en.ct,en.ex⟩
def QtA(i:Nat)(we:DE):DS:=λD δ=>we δ (λd=>D.nx (δ.set i (.v d))) D.ex
def QpE(i:Nat)(we:DE):DS:=λD δ=>we δ (λd=>match d with
 |.list ds=>D.nx (δ.set i (.own ds))
 |_=>False) D.ex
def Qs2(i:Nat)(we:DE):DS:=λD δ=>we δ (λd=>match d with
 |.list [.int _]=>D.nx (δ.set i .pot)
 |_=>False) D.ex
variable{i:Nat}{e:QM}{st:ZH}{we wi:DE}
theorem QfY(h:PS X st (Qnd (tX .D X.K E we) (QcT i))):PS X st (tS X.K E (QtA i we)):=by
 refine PS.imp h λD σ H ⟨F,δ,DD,rel,hw,en⟩=>?_
 refine⟨F,δ,_,DD.ex,rel,hw,λd hd v H' rel' kp vk=>?_,en.ex⟩;exact en.nx.go _ hd _ H' (rel'.setv vk) ((Stp.kp kp).trans Stp.setv)
theorem QnN{F:Fm}{σ:L2.St}{δ:Sts}{i:Nat}{l:Addr}{x:Sl}{a:Addr}(h:Av F (σ.set i (some (.ref l))) (δ.set i x) a):Av F σ δ a∨a=l:=by
 rcases h with h | ⟨j,h1,h2⟩
 ·exact .inl (.inl h)
 ·by_cases z:j=i
  ·subst z;cases set_eq h1;exact .inr rfl
  ·rw[ZY z] at h1 h2;exact .inl (.inr ⟨j,h1,h2⟩)
theorem Rel.seto{K:PySem.W.Frag}{F:Fm}{σ:L2.St}{H H':Hp}{δ:Sts}{l:Addr}{x:Sl}(r:Rel K F σ H δ)(r':Rel K F σ H' δ)(kp:Kp σ δ H H')(n:H l=none)(hx:∀A:Addr->Prop,(∀a,A a->Av F σ δ a∨H a=none)->(∀a,A a->Av F σ δ a∨a=l)->QvA K F H' A (some (.ref l)) x) :
  Rel K F (σ.set i (some (.ref l))) H' (δ.set i x)/\Stp F σ H δ (σ.set i (some (.ref l))) H' (δ.set i x):=by
 have nA:∀a,Av F (σ.set i (some (.ref l))) (δ.set i x) a->Av F σ δ a∨H a=none:=λa z=>(QnN z).elim .inl λz=>.inr (by rw[z];exact n)
 have kk:∀a o,¬Av F σ δ a->H a=some o->H' a=some o:=λa o m e=>kp.1 a o (λz=>m (Yn z)) e
 refine⟨?_,⟨kk,nA⟩⟩;exact{
  len:=by rw[Zl,Zl];exact r.len
  dom:=r'.dom
  dom0:=r'.dom0
  pt0:=r'.pt0
  kx:=r'.kx
  sl:=λj o y h1 h2=>by
   by_cases z:j=i
   ·subst z;cases set_eq h1;cases set_eq h2;exact hx _ nA λa z=>QnN z
   ·rw[ZY z] at h1 h2;have h:=r.sl j o y h1 h2;have h':=r'.sl j o y h1 h2;cases y with
    |no=>trivial
    |v d=>obtain⟨v',e,q'⟩:=h;exact⟨v',e,q'.mv kk nA⟩
    |own ds=>obtain⟨l',xs,rfl,e2,q',f⟩:=h;exact⟨l',xs,rfl,kp.1 _ _ (r.own_pot h2 h1) e2,q'.mv kk nA,f⟩
    |pk ds=>
     obtain⟨l',xs,rfl,e2,q',ys,f,f2⟩:=h;refine⟨l',xs,rfl,kp.1 _ _ ?_ e2,q'.mv kk nA,ys,f,f2⟩;rintro⟨j,j1,j2⟩;obtain⟨p,m,e1,_,w⟩:=r.sl j _ _ j1 j2;cases e1;rcases w with w | w
     ·exact f2 w
     ·rw[w] at f;cases f
    |pot=>exact h'
    |scr=>exact h'
  inj:=λj k a ds h1 h2 ⟨h3,h4⟩=>by
   have ne:∀(k:Nat),k≠i->σ[k]? = some (some (.ref l))->(δ[k]? = some .pot∨∃ds,δ[k]? = some (.own ds))->False:=λk _ h3 h4=>by
    obtain⟨xs,e⟩:=r.isl (a:=l) (.inr ⟨k,h3,h4⟩);rw[n] at e;cases e
   by_cases z:j=i
   ·subst z;cases set_eq h2;by_cases z2:k=j
    ·exact z2.symm
    ·rw[ZY z2] at h3 h4;exact(ne k z2 h3 h4).elim
   ·rw[ZY z] at h1 h2;by_cases z2:k=i
    ·subst z2;cases set_eq h3;exact(ne j z h2 (.inr ⟨ds,h1⟩)).elim
    ·rw[ZY z2] at h3 h4;exact r.inj j k a ds h1 h2 ⟨h3,h4⟩ }
theorem Qkd{K:PySem.W.Frag}{F:Fm}{σ:L2.St}{H:Hp}{δ:Sts}(r:Rel K F σ H δ){l:Addr}(n:H l=none):F.H0 l=none:=by
 cases e:F.H0 l with
 |none=>rfl
 |some o=>
  by_cases z:F.pt l
  ·obtain⟨_,m,e'⟩:=r.pt0 l z;rw[n] at e';cases e'
  ·rw[r.kx l o z e] at n;cases n
theorem QgR(h:PS X st (Qnd (tX .F X.K E we) (QcT i))):PS X st (tS X.K E (QpE i we)):=by
 refine PS.imp h λD σ H ⟨F,δ,DD,rel,hw,en⟩=>?_
 refine⟨F,δ,_,DD.ex,rel,hw,λd hd v H' rel' kp ⟨vk,fr⟩=>?_,en.ex⟩;obtain⟨ds,rfl⟩:∃ds,d=.list ds:=by cases d<;>first | exact⟨_,rfl⟩ | exact(show False from hd).elim
 obtain⟨l,rfl⟩:∃l,v=.ref l:=by cases vk;exact⟨_,rfl⟩
 obtain⟨xs,e,q⟩:=DA.items vk;have n:=fr l rfl ⟨xs,e⟩;obtain⟨r2,st⟩:=rel.seto (i:=i) (x:=.own ds) rel' kp n λA hA hB=>⟨l,xs,rfl,e,q.mv (λ_ _ _ e=>e) λa z=>.inl (hB a z),Qkd rel n⟩
 exact en.nx.go _ hd _ H' r2 st
theorem QlZ(h:PS X st (Qnd (tX .F X.K E we) (QcT i))):PS X st (tS X.K E (Qs2 i we)):=by
 refine PS.imp h λD σ H ⟨F,δ,DD,rel,hw,en⟩=>?_
 refine⟨F,δ,_,DD.ex,rel,hw,λd hd v H' rel' kp ⟨vk,fr⟩=>?_,en.ex⟩;split at hd
 ·cases vk with
  |@lst l xs ds na e q=>
   have n:=fr l rfl ⟨xs,e⟩;cases q with
   |cons q1 q2=>
    cases q1;cases q2;obtain⟨r2,st⟩:=rel.seto (i:=i) (x:=.pot) rel' kp n λA hA hB=>⟨l,_,rfl,e,.inr (Qkd rel n)⟩
    exact en.nx.go _ hd _ H' r2 st
 ·exact hd.elim
def Qvo(we:DE):DS:=λD δ=>we δ D.rt D.ex
def Qs4(we:DE):DS:=λD δ=>we δ D.rtF D.ex
theorem QpD{F:Fm}{σ:L2.St}{δ:Sts}{H:Hp}{v:V}{d:Qa}(h:DA (Av F σ δ) H v d):DA F.A0 H v d:=h.mv (λ_ _ _ e=>e) λa z=>.inl (.inl z)
theorem QoH{e:QM}{pos:Pos}(h:PE X e (tX .D X.K E we)):PS X (.Return (some e) pos) (tS X.K E (Qvo we)):=by
 refine PS.imp (YM h) λD σ H ⟨F,δ,DD,rel,hw,en⟩=>?_
 exact⟨F,δ,_,DD.ex,rel,hw,λd hd v H' rel' kp vk=>en.rt d hd v H' rel'.ke (QpD vk),en.ex⟩
theorem Ql1{e:QM}{pos:Pos}(h:PE X e (tX .F X.K E we)):PS X (.Return (some e) pos) (tS X.K E (Qs4 we)):=by
 refine PS.imp (YM h) λD σ H ⟨F,δ,DD,rel,hw,en⟩=>?_
 exact⟨F,δ,_,DD.ex,rel,hw,λd hd v H' rel' kp vk=>en.rtF d hd v H' rel'.ke (QpD vk.1) λl e1 e2=>Qkd rel (vk.2 l e1 e2),en.ex⟩
def QpF(i:Nat):DS:=λD δ=>match δ[i]? with
 |some (.own ds)=>D.rtF (.list ds)
 |some (.v d)=>D.rt d
 |_=>False
theorem Ql0{e:QM}{pos:Pos}(h:PE X e (QgB i)):PS X (.Return (some e) pos) (tS X.K E (QpF i)):=by
 refine PS.imp (YM h) λD σ H ⟨F,δ,DD,rel,hw,en⟩=>?_
 unfold QpF at hw;split at hw
 ·rename_i ds hd
  obtain⟨x,hx⟩:=rel.lt hd;obtain⟨l,xs,rfl,e,q,f⟩:=rel.sl i _ _ hx hd;refine⟨_,hx,en.rtF _ hw _ H rel.ke (.lst (λz=>?_) e (q.mv (λ_ _ _ e=>e) λa z=>.inl (.inl z))) λl' e1 _=>by cases e1;exact f⟩;obtain⟨ys,e'⟩:=rel.dom0 l z;rw[f] at e';cases e'
 ·rename_i d hd
  obtain⟨x,hx⟩:=rel.lt hd;obtain⟨v,rfl,q⟩:=rel.sl i _ _ hx hd;exact⟨v,hx,en.rt _ hw _ H rel.ke (QpD q)⟩
 ·exact hw.elim
def dIf(t:DT)(a b:DS):DS:=λD δ=>t δ (λc=>if c=true then a D δ else b D δ) D.ex
theorem Qr2{c:QM}{a b:List ZH}{pos:Pos}{t:DT}{w w':DS}(hc:PT X c (tT X.K E t))(ha:PSs X a (tS X.K E w))(hb:PSs X b (tS X.K E w')):PS X (.If c a b pos) (tS X.K E (dIf t w w')):=by
 refine PS.imp (Qfa hc ha hb) λD σ H ⟨F,δ,DD,rel,hw,en⟩=>?_
 exact⟨F,δ,_,DD.ex,rel,hw,λb hb H' rel' kp=>Qa4 hb (λz=>⟨F,δ,DD,rel',z,en.step (Stp.kp kp)⟩) λz=>⟨F,δ,DD,rel',z,en.step (Stp.kp kp)⟩,en.ex⟩
theorem Qjj{sts:List ZH}:PSs X sts (tS X.K E λ_ _=>False):=λpins s σ H D I ⟨F,δ,DD,rel,hw,en⟩=>hw.elim
theorem Qpc{g:Int->Int->Int}:QpT (ipI g) (ii0 λi j=>.int (g i j)):=λA P H x y d1 d2 R Q ln dm hx hy h k=>by
 cases d1<;>cases d2<;>first | exact h.elim | skip
 rw[hx.int,hy.int];exact⟨_,_,rfl,rfl,k _ h _ H (Same.refl H) (.int _)⟩
theorem PIp.len{op:Qd3}{t:TIp}(h:PIp X op t):PIp X op (λx y H Q=>QbA H->t x y H Q):=λpins s σ H x y v u Q I rx ry q=>h pins s σ H x y v u Q I rx ry (q (Inv.lens I))
theorem Rel.mut{K:PySem.W.Frag}{F:Fm}{σ:L2.St}{H:Hp}{δ:Sts}(r:Rel K F σ H δ){l:Addr}{ds ds':List Qa}{ys:List V}(h:δ[i]? = some (.own ds))(hx:σ[i]? = some (some (.ref l)))(q:DAs (Av F σ δ) H ys ds') :
  Rel K F σ (upd H l (.lst ys)) (δ.set i (.own ds'))/\Stp F σ H δ σ (upd H l (.lst ys)) (δ.set i (.own ds')):=by
 have hl:Av F σ δ l:=.inr ⟨i,hx,.inr ⟨ds,h⟩⟩;obtain⟨l',xs0,e0,el,_,f⟩:=r.sl i _ _ hx h;cases e0;have lt:i < δ.length:=(Qr.mp h).1;have ge:(δ.set i (.own ds'))[i]? = some (.own ds'):=by rw[JS lt]
 have kk:∀a o,¬Av F σ δ a->H a=some o->upd H l (.lst ys) a=some o:=λa o n e=>by rw[Q5 (λz=>n (by rw[z];exact hl))];exact e
 have av:∀a,Av F σ (δ.set i (.own ds')) a->Av F σ δ a:=λa z=>by
  rcases z with z | ⟨j,h1,h2⟩
  ·exact .inl z
  ·by_cases z:j=i
   ·subst z;exact .inr ⟨j,h1,.inr ⟨ds,h⟩⟩
   ·rw[ZY z] at h2;exact .inr ⟨j,h1,h2⟩
 have up:∀{b:Addr}{o:HO},b≠l->H b=some o->upd H l (.lst ys) b=some o:=λn e=>by rw[Q5 n];exact e
 refine⟨?_,⟨kk,λa z=>.inl (av a z)⟩⟩;exact{
  len:=by rw[Zl];exact r.len
  dom:=λa ha=>by
   by_cases z:a=l
   ·rw[z];exact⟨_,Q8⟩
   ·obtain⟨xs,e⟩:=r.dom a ha;exact⟨xs,up z e⟩
  dom0:=r.dom0
  pt0:=λp hp=>by
   obtain⟨h1,n,e⟩:=r.pt0 p hp;refine⟨h1,n,up (λz=>?_) e⟩;obtain⟨xs,e'⟩:=r.dom0 p h1;rw[z,f] at e';cases e'
  kx:=λb o n e=>up (λz=>by rw[z,f] at e;cases e) (r.kx b o n e)
  sl:=λj o y h1 h2=>by
   by_cases z:j=i
   ·subst z;rw[ge] at h2;cases h2;rw[hx] at h1;cases h1;exact⟨l,ys,rfl,Q8,q.mv kk λa z=>.inl (av a z),f⟩
   ·rw[ZY z] at h2;have hh:=r.sl j o y h1 h2;cases y with
    |no=>trivial
    |v d=>obtain⟨v',e,q'⟩:=hh;exact⟨v',e,q'.mv kk λa z=>.inl (av a z)⟩
    |own es=>
     obtain⟨l',xs,rfl,e2,q',f'⟩:=hh;exact⟨l',xs,rfl,up (λz2=>z (r.inj j i l' es h2 h1 ⟨by rw[z2];exact hx,.inr ⟨ds,h⟩⟩)) e2,q'.mv kk λa z=>.inl (av a z),f'⟩
    |pk es=>
     obtain⟨l',xs,rfl,e2,q',ys',f',f2⟩:=hh;exact⟨l',xs,rfl,up (λz2=>by rw[z2,f] at f';cases f') e2,q'.mv kk λa z=>.inl (av a z),ys',f',f2⟩
    |pot=>
     obtain⟨p,n,rfl,e2,w⟩:=hh;refine⟨p,n,rfl,up (λz2=>?_) e2,w⟩;subst z2;exact r.own_pot h hx ⟨j,h1,h2⟩
    |scr=>exact hh
  inj:=λj k a es h1 h2 ⟨h3,h4⟩=>by
   have h4':δ[k]? = some .pot∨∃ds,δ[k]? = some (.own ds):=by
    by_cases z:k=i
    ·subst z;exact .inr ⟨ds,h⟩
    ·rw[ZY z] at h4;exact h4
   by_cases z:j=i
   ·subst z;exact r.inj j k a ds h h2 ⟨h3,h4'⟩
   ·rw[ZY z] at h1;exact r.inj j k a es h1 h2 ⟨h3,h4'⟩ }
def QuS(i:Nat)(we:DE):DS:=λD δ=>match δ[i]? with
 |some (.own ds)=>we δ (λd=>ds.length<1000000/\D.nx (δ.set i (.own (ds++[d])))) D.ex
 |_=>False
theorem QoP(h:PS X st (Qlm (tBM X.K "list" Qi7 (QgB i) (QeZ (tX .D X.K E we) Qrr)))):PS X st (tS X.K E (QuS i we)):=by
 refine PS.imp h λD σ H ⟨F,δ,DD,rel,hw,en⟩=>?_
 unfold QuS at hw;split at hw
 ·rename_i ds hd
  obtain⟨x,hx⟩:=rel.lt hd;obtain⟨l,xs,rfl,e,q,f⟩:=rel.sl i _ _ hx hd;have np:=rel.own_pot hd hx;refine⟨.ref l,hx,.inl ⟨rfl,_,SqL.of e⟩,F,δ,_,DD.ex,rel,hw,λd ⟨hl,hn⟩ v H' rel' kp vk=>?_,en.ex⟩;have q':=kp.das q;refine⟨l,xs,v,rfl,rfl,kp.1 _ _ np e,QH (by rw[q.length];exact hl) Qf8,?_⟩;obtain⟨r2,st⟩:=rel'.mut hd hx (q'.app (.cons vk .nil));exact en.nx.go _ hn _ _ r2 ((Stp.kp kp).trans st)
 ·exact hw.elim
def QuR(i:Nat)(we:DE):DS:=λD δ=>match δ[i]? with
 |some (.own ds)=>we δ (λd=>match d with
  |.list es=>ds.length+es.length<=1000000/\D.nx (δ.set i (.own (ds++es)))
  |_=>False) D.ex
 |_=>False
theorem QoN(h:PS X st (Qlm (tBM X.K "list" Qi6 (QgB i) (QeZ (tX .P X.K E we) Qrr)))):PS X st (tS X.K E (QuR i we)):=by
 refine PS.imp h λD σ H ⟨F,δ,DD,rel,hw,en⟩=>?_
 unfold QuR at hw;split at hw
 ·rename_i ds hd
  obtain⟨x,hx⟩:=rel.lt hd;obtain⟨l,xs,rfl,e,q,f⟩:=rel.sl i _ _ hx hd;have np:=rel.own_pot hd hx;refine⟨.ref l,hx,.inl ⟨rfl,_,SqL.of e⟩,F,δ,_,DD.ex,rel,hw,λd hd2 v H' rel' kp vk=>?_,en.ex⟩;cases d<;>first | exact(show False from hd2).elim | skip
  obtain⟨hl,hn⟩:=hd2;obtain⟨l2,ys,rfl,e2,q2⟩:=DP.list vk;have q':=kp.das q;refine⟨l,l2,xs,ys,rfl,rfl,kp.1 _ _ np e,e2,QV (by rw[q.length,q2.length];exact hl) Qf8,?_⟩;obtain⟨r2,st⟩:=rel'.mut hd hx (q'.app q2);exact en.nx.go _ hn _ _ r2 ((Stp.kp kp).trans st)
 ·exact hw.elim
def Qvp(i:Nat)(wi we:DE):DS:=λD δ=>we δ (λd=>match δ[i]? with
 |some (.own ds)=>wi δ (λz=>match z with
  |.int k=>∃j,ixN ds.length k=some j/\D.nx (δ.set i (.own (ds.set j d)))
  |_=>False) D.ex
 |_=>False) D.ex
theorem QoI(h:PS X st (Qnd (tX .D X.K E we) (gSub (QgB i) (tX .P X.K E wi) Qog))):PS X st (tS X.K E (Qvp i wi we)):=by
 refine PS.imp h λD σ H ⟨F,δ,DD,rel,hw,en⟩=>?_
 refine⟨F,δ,_,DD.ex,rel,hw,λd hd v H1 rel1 kp1 vk=>?_,en.ex⟩;split at hd
 ·rename_i ds hds
  obtain⟨x,hx⟩:=rel1.lt hds;obtain⟨l,xs,rfl,e,q,f⟩:=rel1.sl i _ _ hx hds;have np:=rel1.own_pot hds hx;refine⟨.ref l,hx,F,δ,_,DD.ex,rel1,hd,λz hz y H2 rel2 kp2 yk=>?_,en.ex⟩;cases z<;>first | exact(show False from hz).elim | skip
  obtain⟨j,hj,hn⟩:=hz;refine⟨l,xs,_,j,rfl,DP.int yk,kp2.1 _ _ np e,by rw[q.length];exact hj,?_⟩;obtain⟨r2,st⟩:=rel2.mut hds hx ((kp2.das q).set (kp2.da vk) j);exact en.nx.go _ hn _ _ r2 (((Stp.kp kp1).trans (Stp.kp kp2)).trans st)
 ·exact hd.elim
def QpJ(i:Nat)(rD:Qa->Qa->(Qa->Prop)->Prop)(wi we:DE):DS:=λD δ=>match δ[i]? with
 |some (.own ds)=>wi δ (λz=>match z with
  |.int k=>∃j a,ixN ds.length k=some j/\ds[j]? = some a/\we δ (λe=>rD a e λb=>D.nx (δ.set i (.own (ds.set j b)))) D.ex
  |_=>False) D.ex
 |_=>False
theorem Ql4{r:TIp}{rD:Qa->Qa->(Qa->Prop)->Prop}(hd:QpT r rD)(h:PS X st (Qrs (QgB i) (tX .P X.K E wi) (tX .P X.K E we) (Qtu X.K) (λx y H Q=>QbA H->r x y H Q) Qog)):PS X st (tS X.K E (QpJ i rD wi we)):=by
 refine PS.imp h λD σ H ⟨F,δ,DD,rel,hw,en⟩=>?_
 unfold QpJ at hw;split at hw
 ·rename_i ds hds
  obtain⟨x,hx⟩:=rel.lt hds;obtain⟨l,xs,rfl,e,q,f⟩:=rel.sl i _ _ hx hds;have np:=rel.own_pot hds hx;refine⟨.ref l,hx,F,δ,_,DD.ex,rel,hw,λz hz y H1 rel1 kp1 yk=>?_,en.ex⟩;cases z<;>first | exact(show False from hz).elim | skip
  obtain⟨j,a,hj,ha,hn⟩:=hz;have q1:=kp1.das q;obtain⟨va,hva,da⟩:=q1.get j a ha;rw[DP.int yk];refine⟨l,xs,_,va,rfl,rfl,SqL.of (kp1.1 _ _ np e),by unfold atI;rw[q.length,hj];exact hva,F,δ,_,DD.ex,rel1,hn,λb hb u H2 rel2 kp2 uk ln=>?_,en.ex⟩;refine hd (Av F σ δ) (ZF σ δ) H2 va u a b _ _ ln (λa ha=>rel2.isl ha) (.inl (kp2.da da)) uk hb λc hc w H3 s dw=>?_
  have r3:=rel2.same s;have k3:=kp2.trans (Kp.same rel2 s);refine⟨l,xs,_,j,rfl,rfl,k3.1 _ _ np (kp1.1 _ _ np e),by rw[q.length];exact hj,?_⟩;obtain⟨r4,st⟩:=r3.mut hds hx ((k3.das q1).set dw j);exact en.nx.go _ hc _ _ r4 (((Stp.kp kp1).trans (Stp.kp k3)).trans st)
 ·exact hw.elim
def Qtz(δ:Sts)(i:Nat):Sts:=match δ[i]? with
 |some (.own ds)=>δ.set i (.v (.list ds))
 |_=>δ
def Qp5(is:List Nat)(δ:Sts):Sts:=is.foldl Qtz δ
theorem QpC{K:PySem.W.Frag}{F:Fm}{σ:L2.St}{H:Hp}{δ:Sts}(r:Rel K F σ H δ){i:Nat}{ds:List Qa}(h:δ[i]? = some (.own ds)):Rel K F σ H (δ.set i (.v (.list ds)))/\Stp F σ H δ σ H (δ.set i (.v (.list ds))):=by
 obtain⟨x,hx⟩:=r.lt h;obtain⟨l,xs,rfl,e,q,f⟩:=r.sl i _ _ hx h;have hs:σ.set i (some (.ref l))=σ:=by
  refine Qdc λj=>?_
  by_cases z:j=i
  ·subst z;rw[hx,JS (Qr.mp hx).1]
  ·rw[ZY z]
 have lt:i < δ.length:=(Qr.mp h).1;have avn:∀a,Av F σ (δ.set i (.v (.list ds))) a->Av F σ δ a/\a≠l:=λa z=>by
  rcases z with z | ⟨j,h1,h2⟩
  ·refine⟨.inl z,λe'=>?_⟩;obtain⟨ys,e2⟩:=r.dom0 a z;rw[e',f] at e2;cases e2
  ·by_cases z:j=i
   ·subst z;rw[JS lt] at h2;rcases h2 with h2 | ⟨_,h2⟩<;>cases h2
   ·rw[ZY z] at h2;refine⟨.inr ⟨j,h1,h2⟩,λe'=>?_⟩;subst e';exact z (r.inj i j a ds h hx ⟨h1,h2⟩).symm
 have wk:∀{v:V}{d:Qa},DA (Av F σ δ) H v d->DA (Av F σ (δ.set i (.v (.list ds)))) H v d:=λq=>q.mv (λ_ _ _ e=>e) λa z=>.inl (avn a z).1
 have wks:∀{v:List V}{d:List Qa},DAs (Av F σ δ) H v d->DAs (Av F σ (δ.set i (.v (.list ds)))) H v d:=λq=>q.mv (λ_ _ _ e=>e) λa z=>.inl (avn a z).1
 refine⟨?_,⟨λ_ _ _ e=>e,λa z=>.inl (avn a z).1⟩⟩;exact{
  len:=by rw[Zl];exact r.len
  dom:=r.dom
  dom0:=r.dom0
  pt0:=r.pt0
  kx:=r.kx
  sl:=λj o y h1 h2=>by
   by_cases z:j=i
   ·subst z;rw[JS lt] at h2;cases h2;rw[hx] at h1;cases h1;exact⟨_,rfl,.lst (λz=>(avn l z).2 rfl) e (wks q)⟩
   ·rw[ZY z] at h2;have hh:=r.sl j o y h1 h2;cases y with
    |no=>trivial
    |v d=>obtain⟨v',e,q'⟩:=hh;exact⟨v',e,wk q'⟩
    |own es=>obtain⟨l',xs,e1,e2,q',f'⟩:=hh;exact⟨l',xs,e1,e2,wks q',f'⟩
    |pk es=>obtain⟨l',xs,e1,e2,q',f'⟩:=hh;exact⟨l',xs,e1,e2,wks q',f'⟩
    |pot=>exact hh
    |scr=>exact hh
  inj:=λj k a es h1 h2 ⟨h3,h4⟩=>by
   have h4':δ[k]? = some .pot∨∃ds,δ[k]? = some (.own ds):=by
    by_cases z:k=i
    ·subst z;exact .inr ⟨ds,h⟩
    ·rw[ZY z] at h4;exact h4
   by_cases z:j=i
   ·subst z;rw[JS lt] at h1;cases h1
   ·rw[ZY z] at h1;exact r.inj j k a es h1 h2 ⟨h3,h4'⟩ }
theorem Qge{K:PySem.W.Frag}{F:Fm}{σ:L2.St}{H:Hp}:∀(is:List Nat){δ:Sts},Rel K F σ H δ->Rel K F σ H (Qp5 is δ)/\Stp F σ H δ σ H (Qp5 is δ)
 |[],δ,r=>⟨r,Stp.refl⟩
 |i::is,δ,r=>by
  show Rel K F σ H (Qp5 is (Qtz δ i))/\Stp F σ H δ σ H (Qp5 is (Qtz δ i));unfold Qtz;split
  ·rename_i ds hd
   obtain⟨r1,s1⟩:=QpC r hd;obtain⟨r2,s2⟩:=Qge is r1;exact⟨r2,s1.trans s2⟩
  ·exact Qge is r
theorem QoO{w:DS}(is:List Nat)(h:PS X st (tS X.K E w)):PS X st (tS X.K E λD δ=>w D (Qp5 is δ)):=by
 refine PS.imp h λD σ H ⟨F,δ,DD,rel,hw,en⟩=>?_
 obtain⟨r,s⟩:=Qge is rel;exact⟨F,_,DD,r,hw,en.step s⟩
@[irreducible] def Qp8(items:List Qa)(wg:DG)(wb:DS)(D:Qc9)(δ:Sts):Prop:=∃Iv:Nat->Sts->Prop,Iv 0 δ/\(∀(i:Nat) d δ,items[i]? = some d->Iv i δ->wg d δ λδ2=>wb { D with nx:=Iv (i+1),ct:=Iv (i+1),bk:=D.nx } δ2)/\∀δ,Iv items.length δ->D.nx δ
def dFor(wi:DI)(wg:DG)(wb:DS):DS:=λD δ=>wi δ (λitems=>Qp8 items wg wb D δ) D.ex
theorem QoM{tg iter:QM}{body:List ZH}{pos:Pos}{ix:List Nat}{wi:DI}{wg:DG}{wb:DS}(hp:Qd2 (model X.prog X.w) X.A X.env X.xe)(hc:X.calm=true)(hi:PI X tg iter (tI .D X.K E wi))(hg:PG X tg (tG ix X.K wg))(hb:PSs X body (tS X.K E wb))
  (hs:∀x,foldedSetIterable iter X.env x=pure x:=by intro _;rfl):PS X (.For tg iter body [] pos) (tS X.K E (dFor wi wg wb)):=by
 refine PS.imp (Qno hp hc hi hg hb hs) λD σ H ⟨F,δ,DD,rel,hw,en⟩=>?_
 refine⟨F,δ,_,DD.ex,rel,hw,λitems hC J H1 rel1 kp1 ⟨ln,it⟩=>?_,en.ex⟩;unfold Qp8 at hC;obtain⟨Iv,i0,step,fin⟩:=hC;have en1:=en.step (Stp.kp (F:=F) kp1);refine⟨λi m σ' H'=>m=items.length - i/\i<=items.length/\∃δ',Iv i δ'/\Rel X.K F σ' H' δ'/\Stp F σ H1 δ σ' H' δ',⟨_,rfl,Jn _,δ,i0,rel1,Stp.refl⟩,?_⟩;rintro i m σ' H' ⟨rfl,hi',δ',iv,r',st'⟩;obtain⟨go,stop⟩:=it H' (Av F σ' δ') st'.1 st'.2 λa ha=>r'.isl ha
 by_cases hlt:i<items.length
 ·have hd:items[i]? = some items[i]:=Qg hlt;obtain⟨g1,g2⟩:=go i _ hd;refine .inr ⟨g1,λσ2 H2=>∃δ2,Iv (i+1) δ2/\Rel X.K F σ2 H2 δ2/\Stp F σ H1 δ σ2 H2 δ2,λσ2 H2 ⟨δ2,h2,r2,s2⟩=>⟨_,by omega,rfl,hlt,δ2,h2,r2,s2⟩,λx H3 y=>?_⟩;obtain⟨s3,dx⟩:=g2 x H3 y;have r3:=r'.same s3;have st3:Stp F σ H1 δ σ' H3 δ':=st'.trans (Stp.kp (Kp.same r' s3));refine⟨F,δ',_,_,r3,dx,step i _ δ' hd iv,λδ4 h4 σ4 r4 st4 _ _=>⟨F,δ4,_,r4,h4,?_⟩⟩;have st5:=st3.trans st4;exact⟨⟨λδ6 h6 σ6 H6 r6 s6=>⟨δ6,h6,r6,st5.trans s6⟩⟩,en.rt,en.rtF,(en1.step st5).nx,⟨λδ6 h6 σ6 H6 r6 s6=>⟨δ6,h6,r6,st5.trans s6⟩⟩,en.ex⟩
 ·have e:i=items.length:=by omega
  subst e;exact .inl ⟨stop,(en1.step st').nx.go δ' (fin δ' iv) σ' H' r' Stp.refl⟩
theorem Qb3{lo:Int}{n:Nat}{wg:DG}{wb:DS}{D:Qc9}{δ:Sts}(Iv:Nat->Sts->Prop)(h0:Iv 0 δ)
  (hs:∀(i:Nat) δ,i<n->Iv i δ->wg (.int (lo+i)) δ λδ2=>wb { D with nx:=Iv (i+1),ct:=Iv (i+1),bk:=D.nx } δ2)(hd:∀δ,Iv n δ->D.nx δ):Qp8 (QlC lo n) wg wb D δ:=by
 unfold Qp8;exact⟨Iv,h0,λi d δ hd iv=>by obtain⟨hi,rfl⟩:=QfV hd;exact hs i δ hi iv,λδ iv=>hd δ (by rw[QfU] at iv;exact iv)⟩
theorem Zt{items:List Qa}{wg:DG}{wb:DS}{D:Qc9}{δ:Sts}(Iv:Nat->Sts->Prop)(h0:Iv 0 δ)
  (hs:∀(i:Nat) d δ,items[i]? = some d->Iv i δ->wg d δ λδ2=>wb { D with nx:=Iv (i+1),ct:=Iv (i+1),bk:=D.nx } δ2)(hd:∀δ,Iv items.length δ->D.nx δ):Qp8 items wg wb D δ:=by
 unfold Qp8;exact⟨Iv,h0,hs,hd⟩
def Qs7(we:DE):DS:=λD δ=>we δ (λ_=>D.nx δ) D.ex
theorem Ql2(h:PS X st (Qlm (tX .P X.K E we))):PS X st (tS X.K E (Qs7 we)):=by
 refine PS.imp h λD σ H ⟨F,δ,DD,rel,hw,en⟩=>?_
 exact⟨F,δ,_,DD.ex,rel,hw,λd hd v H' rel' kp vk=>en.nx.go δ hd σ H' rel' (Stp.kp kp),en.ex⟩
end
def stD(N:List Str)(args:List Sl):Sts:=args++QY (N.length - args.length) .no
theorem Qdy{α β:Type}{R:α->β->Prop}:∀{xs:List α}{ys:List β},YR R xs ys->∀(i:Nat) x y,xs[i]? = some x->ys[i]? = some y->R x y
 |_,_,.nil,i,x,y,h,_=>by simp at h
 |_,_,.cons a b,0,x,y,h,h'=>by simp at h h';subst h h';exact a
 |_,_,.cons a b,i+1,x,y,h,h'=>Qdy b i x y (by simpa using h) (by simpa using h')
theorem Qe3{K:PySem.W.Frag}{N:List Str}{A pt:Addr->Prop}{H:Hp}{vs:List V}{args:List Sl}(dm:∀a,A a->∃xs,H a=some (.lst xs))(hp:∀p,pt p->A p/\∃n,H p=some (.lst [.int n]))(q:YR (Qgu A pt H) vs args):Rel K ⟨H,A,pt⟩ (L2.start N vs) H (stD N args):=by
 have hl:vs.length=args.length:=q.length;have no:∀(i:Nat) x,(stD N args)[i]? = some x->(i<args.length/\args[i]? = some x)∨x=.no:=λi x h=>by
  unfold stD at h;by_cases z:i<args.length
  ·rw[Qat z] at h;exact .inl ⟨z,h⟩
  ·rw[Qaa (by omega),Yr] at h;split at h
   ·exact .inr (Qq h).symm
   ·cases h
 have arg:∀(i:Nat) o x,(L2.start N vs)[i]? = some o->(stD N args)[i]? = some x->x≠.no->∃v,o=some v/\Qgu A pt H v x:=λi o x h1 h2 hx=>by
  rcases no i x h2 with⟨z,e⟩ | e
  ·unfold L2.start at h1;rw[Qat (by rw[Qe];omega),Qv] at h1;obtain⟨v,hv,rfl⟩:=JP.mp h1;exact⟨v,rfl,Qdy q i v x hv e⟩
  ·exact absurd e hx
 have av:∀a,Av ⟨H,A,pt⟩ (L2.start N vs) (stD N args) a->A a:=λa z=>by
  rcases z with z | ⟨i,h1,h2⟩
  ·exact z
  ·rcases h2 with h2 | ⟨ds,h2⟩
   ·obtain⟨v,e,p,rfl,hp'⟩:=arg i _ _ h1 h2 (λz=>by cases z);cases e;exact(hp _ hp').1
   ·obtain⟨v,e,hh⟩:=arg i _ _ h1 h2 (λz=>by cases z);exact hh.elim
 exact{
  len:=by unfold L2.start stD;rw[QC,QC,Qe,J3,J3,hl]
  dom:=dm
  dom0:=dm
  pt0:=hp
  kx:=λ_ _ _ e=>e
  sl:=λi o x h1 h2=>by
   cases x with
   |no=>trivial
   |v d=>
    obtain⟨v,e,hh⟩:=arg i _ _ h1 h2 (λz=>by cases z);exact⟨v,e,DA.mv hh (λ_ _ _ e=>e) λa z=>.inl (av a z)⟩
   |pot=>
    obtain⟨v,e,p,rfl,hp'⟩:=arg i _ _ h1 h2 (λz=>by cases z);obtain⟨_,n,en⟩:=hp p hp';exact⟨p,n,e,en,.inl hp'⟩
   |own ds=>obtain⟨v,e,hh⟩:=arg i _ _ h1 h2 (λz=>by cases z);exact hh.elim
   |pk ds=>obtain⟨v,e,hh⟩:=arg i _ _ h1 h2 (λz=>by cases z);exact hh.elim
   |scr=>obtain⟨v,e,hh⟩:=arg i _ _ h1 h2 (λz=>by cases z);exact hh.elim
  inj:=λi j a ds h1 h2 _=>by
   obtain⟨v,e,hh⟩:=arg i _ _ h2 h1 (λz=>by cases z);exact hh.elim }
def QvU:Qa->Bool
 |.list _=>false
 |_=>true
def rtD:Bool->(Qa->Prop)->Qa->Prop
 |true,R,d=>QvU d=true/\R d
 |false,R,d=>R d
def QmQ(fr:Bool)(R:Qa->Prop)(EX:XP):Qc9:=⟨λ_=>R .none,rtD fr R,R,λ_=>False,λ_=>False,EX⟩
theorem Qkl{K:PySem.W.Frag}{E Ex:XK}{fr:Bool}{A pt:Addr->Prop}{H:Hp}{R:Qa->Prop}{EX EX':XP}{Q:VK}{σ:L2.St}{δ:Sts}(k:∀d,R d->∀v H',Kq pt H H'->DA A H' v d->(fr=true->FrV H H' v)->Q v H')(o:Out ⟨H,A,pt⟩ E EX') :
  Ends1 K E ⟨H,A,pt⟩ σ H δ (QmQ fr R EX') { nx:=λ_ H'=>Q .non H',rt:=Q } where
 nx:=⟨λδ' hR σ' H' r st=>k _ hR _ H' r.ke .non λ_=>Qpu⟩
 rt:=λd h v H' ke dv=>by
  cases fr with
  |false=>exact k d h v H' ke dv λz=>by cases z
  |true=>
   obtain⟨h1,h2⟩:=h;refine k d h2 v H' ke dv λz l e1 ⟨xs,e2⟩=>?_
   subst e1;cases dv with
   |@tup a ys ds n e q=>rw[e] at e2;cases e2
   |@lst a ys ds n e q=>cases h1
   |@dct a kvs ds n e q=>rw[e] at e2;cases e2
 rtF:=λd h v H' ke dv fr'=>k d h v H' ke dv λ_=>fr'
 bk:=⟨λ_ h=>h.elim⟩
 ct:=⟨λ_ h=>h.elim⟩
 ex:=o
section
variable{P:QF}{w:Q9}{K:PySem.W.Frag}{mg:Str->Option Value}{base:JU}
theorem okD{x qual:Str}{st:ZH}{f:Addr}{fd:QB}{N ps:List Str}{k:Nat}{fD:DF}(fr:Bool)(F:Fun K x qual st f fd)(S:Jd N ps (Qo st))(len:∀args R EX,fD args R EX->args.length=ps.length)
  (hbody:∀(cdv:Value)(A:Q6)(outer:List Env)(s:Shared)(H:Hp)(E:XK),Room k (A.deeper (envOfC qual (Qo st) s.heap.objs.size f cdv)) ->
   ∃wd,PSs (Qim CX0 P w K mg base N qual (Qo st) f cdv A outer s H E).nox (Ja st) (tS K E0 wd)/\∀args R EX,fD args R EX->wd (QmQ fr R XF) (stD N args)):FnOk P w K mg base CX0 (k+1) f fd ps (JK fr fD):=by
 refine F.ok S (λvs H Q E h=>?_) λcdv A outer s H vs Q E hr h=>?_
 ·obtain⟨A,pt,args,R,EX,_,_,q,h,_⟩:=h;rw[q.length];exact len _ _ _ h
 ·obtain⟨wd,hp,hw⟩:=hbody cdv A outer s H E hr;obtain⟨A',pt,args,R,EX,dm,hpt,q,h,k,_⟩:=h;exact⟨_,hp,⟨H,A',pt⟩,_,_,Qe3 dm hpt q,hw args R EX h,Qkl (Ex:=E) (EX:=EX) k Qmf⟩
end
end Dl
namespace L2
def QuY(i j:Int):Prop:=0<j/\j<=10^40
theorem Qmk{X:Cx}:OpR X (binaryOp .FloorDiv) (rI QuY λi j=>.int (i / j)):=opI λi j _ _ _ _ _ hc q=>by
 have h1:(0:Int)<j:=hc.1;have h2:j<=10^40:=hc.2;refine floordiv_int (by omega) (by rw[Int.fdiv_eq_ediv_of_nonneg i (by omega)];exact q) (.inl (PyProof.noPylong_of_log2 ?_));have h3:j.natAbs<2^200:=by
  have:(10:Int)^40<2^200:=by decide
  omega
 have:=(Nat.log2_lt (by omega:j.natAbs≠0)).mpr h3;omega
end L2
namespace Rk
open L2 _root_.Rd
def QgE:Sp:=λvs H Q _=>∃p n f,vs=[.ref p,.int f]/\H p=some (.lst [.int n])/\0<f/\f<=10^40/\∀r m,0<=r->r<f->Q (.int r) (upd H p (.lst [.int m]))
end Rk
namespace Dl
open L2 _root_.Rd Rk
theorem Ze{X:Cx}{E:XK}:Y0 CX0 X E:=λ_ _ _ _ _ _ _ h=>h.elim
theorem Room.u60{k:Nat}{A:Q6}(r:Room k A):A.units+60<cLine:=by have:=r.un;omega
theorem Room.i60{k:Nat}{A:Q6}(r:Room k A):A.in1.units+60<cLine:=by
 have:=r.un;show A.units+1+60<cLine;omega
section
variable{X:Cx}{E:XK}{CX:CXT}{k:Nat}{f:Addr}{fd:QB}{ps:List Str}{x:Str}{p pos:Pos}{e:QM}{es:List QM}{fD:DF}
def Qgg(f:DF)(wa:DAr):DE:=λδ Q EX=>wa δ (λds=>f (ds.map Sl.v) (λd=>scal d=true/\Q d) EX) EX
theorem Qgl{n:Nat}{fr:Bool}{K:PySem.W.Frag}{f:DF}{wa:DAr}(σ:L2.St)(H:Hp)(Q:VK)(h:tX .F K E (Qgg f wa) σ H Q):QhE (JK fr f) [] E (tAr n .P K E wa) σ H Q:=by
 obtain⟨F,δ,R,EX,rel,hw,k,o⟩:=h;refine⟨F,δ,_,EX,rel,hw,λargs ha _ vs H1 rel1 kp1 q=>?_,o⟩;show JK fr f (vs++[]) H1 Q E;rw[Zn];refine⟨λa=>Av F σ δ a/\¬QuX (ZF σ δ) H1 vs a,λ_=>False,args.map Sl.v,_,EX,λa ha=>rel1.isl ha.1,λp hp=>hp.elim,QcP vs (λ_ h=>h) q,ha,λd hd v H' kq dv fr=>?_,λC hC H' kq=>o C hC H' (rel1.same λb o e=>kq.1 b o (λz=>z) e).ke⟩;have s:Same H1 H':=λb o e=>kq.1 b o (λz=>z) e
 refine k d hd.2 v H' (rel1.same s) (kp1.trans (Kp.same rel1 s)) ⟨QiT dv hd.1,λl e1 e2=>?_⟩;subst e1;have hf:=hd.1;cases dv<;>cases hf
theorem Qjp{n:Nat}{fr:Bool}{wr:DAr}(G:FnOk X.prog X.w X.K X.mg X.base CX k f fd ps (JK fr fD))(hr:Room k X.A)(hg:Gl X x)(hm:X.mg x=some (.ref f))(hk:PySem.W.keepIn X.K (.ref f)=true)(hb:Binds X.K fd ps [])(hx:Y0 CX X E)
  (ha:PA X (e::es) (tAr n .P X.K E wr))(hdb:(x == ("__debug__" : Str))=false:=by decide)(he:starEach (e::es) X.env=(false,eval e X.env)::starEach es X.env:=by rfl)(hpl:(backTo pos (starEach es X.env)).any (·.1)=false:=by rfl) :
  PE X (.Call (.Name x p) (e::es) [] pos) (tX .F X.K E (Qgg fD wr)):=PE.imp (QaJ G hr hg hm hk hb .nil hx ha hdb he hpl) Qgl
def QiH:DF:=λargs R _=>∃f,args=[.pot,.v (.int f)]/\0<f/\f<=10^40/\∀r,0<=r->r<f->R (.int r)
theorem Qro{vs:List V}{H:Hp}{Q:VK}{Ex:XK}(h:JK true QiH vs H Q Ex):QgE vs H Q Ex:=by
 obtain⟨A,pt,args,R,EX,dm,hp,q,⟨f,rfl,f0,f1,hR⟩,k,_⟩:=h;cases q with
 |cons q1 q2=>cases q2 with
  |cons q2 q3=>
   cases q3;obtain⟨p,rfl,pp⟩:=q1;cases q2;obtain⟨_,n,e⟩:=hp p pp;refine⟨p,n,f,rfl,e,f0,f1,λr m r0 r1=>k _ (hR r r0 r1) _ _ ⟨λb o nb eb=>?_,λz hz=>?_⟩ (.int _) λ_=>ZT⟩
   ·rw[Q5 (λz=>nb (by rw[z];exact pp))];exact eb
   ·by_cases y:z=p
    ·rw[y];exact⟨m,Q8⟩
    ·obtain⟨_,n',e'⟩:=hp z hz;exact⟨n',by rw[Q5 y];exact e'⟩
def Qun:DF:=λargs R _=>∃c,args=[.v (.int c)]/\∀n,R (.list [.int n])
theorem Qum{vs:List V}{H:Hp}{Q:VK}{Ex:XK}(h:JK true Qun vs H Q Ex):Qru vs H Q Ex:=by
 obtain⟨A,pt,args,R,EX,dm,hp,q,⟨c,rfl,hR⟩,k,_⟩:=h;cases q with
 |cons q1 q2=>
  cases q2;cases q1;refine⟨c,rfl,λp n hn=>k _ (hR n) _ _ ⟨λb o _ eb=>Js hn b o eb,λz hz=>?_⟩ (.lst (λz=>?_) Q8 (.cons (.int _) .nil)) λ_=>Qbd hn⟩
  ·obtain⟨_,n',e'⟩:=hp z hz;exact⟨n',Js hn _ _ e'⟩
  ·obtain⟨xs,e⟩:=dm p z;rw[hn] at e;cases e
def isW:Qa->Bool
 |.int _=>true
 |_=>false
def QeU:DF:=λargs R _=>∃d,args=[.v d]/\R (.bool (isW d))
def Qob(n:Nat):DF:=λargs R _=>∃d,args=[.v d,.v d]/\nd d=true/\Qck n d=true/\R (.bool true)
theorem Qrx{n:Nat}{vs:List V}{H:Hp}{Q:VK}{Ex:XK}(h:JK false (Qob n) vs H Q Ex):QfS (n+1) vs H Q Ex:=by
 obtain⟨A,pt,args,R,EX,dm,hp,q,⟨d,rfl,hn,hf,hR⟩,k,_⟩:=h;cases q with
 |cons q1 q2=>cases q2 with
  |cons q2 q3=>
   cases q3;exact⟨_,_,d,rfl,Qhg d _ hn q1,Qhg d _ hn q2,hf,λH' s=>k _ hR _ H' ⟨λb o _ e=>s b o e,λp hp'=>let ⟨_,n,e⟩:=hp p hp';⟨n,s _ _ e⟩⟩ (.bl _) λz=>by cases z⟩
theorem QiS{K:PySem.W.Frag}{F:Fm}{σ:L2.St}{H:Hp}{δ:Sts}(r:Rel K F σ H δ){a:Addr}{xs:List V}(h:SqL K F.H0 a xs)(n:¬F.pt a):SqL K H a xs:=by
 rcases h with h | h
 ·rcases h with h | ⟨o,h⟩
  ·exact .inl (.inl (r.kx _ _ n h))
  ·exact .inl (.inr ⟨o,r.kx _ _ n h⟩)
 ·exact .inr h
def QpH(i:Nat):DE:=λδ Q _=>match δ[i]? with
 |some .scr=>∀n:Nat,n<=63->Q (.int n)
 |_=>False
theorem QoT{i:Nat}{a:QM}(hg:Gl X "len")(hm:X.mg "len" = none)(h:PE X a (QgB i))(hs:notStar a=true:=by rfl):PE X (.Call (.Name "len" p) [a] [] pos) (tX .F X.K E (QpH i)):=by
 refine PE.imp (Zg Yx hg hm YQ (QfJ h JV hs) (he:=by rw[Z5 hs])) λσ H Q ⟨F,δ,R,EX,rel,hw,k,o⟩=>?_
 unfold QpH at hw;split at hw
 ·rename_i hd
  obtain⟨x,hx⟩:=rel.lt hd;obtain⟨l,ns,rfl,sq,np,n63⟩:=rel.sl i _ _ hx hd;refine⟨_,hx,l,_,rfl,.inl (QiS rel sq np),?_⟩;rw[Qe];exact k _ (hw _ n63) _ H rel (Kp.refl rel) ⟨.int _,ZT⟩
 ·exact hw.elim
def QpI(i:Nat)(wb:DE):DE:=λδ Q EX=>match δ[i]? with
 |some .scr=>wb δ (λd=>match d with
  |.int k=>0<=k/\∀c,Q (.int c)
  |_=>False) EX
 |_=>False
theorem QoW{i:Nat}{a b:QM}{wb:DE}(G:FnOk X.prog X.w X.K X.mg X.base CX0 k f fd ps (Qbn X.K))(hr:Room k X.A)(hg:Gl X x)(hm:X.mg x=some (.ref f))(hk:PySem.W.keepIn X.K (.ref f)=true)(hb:Binds X.K fd ps [])
  (ha:PE X a (QgB i))(h:PE X b (tX .P X.K E wb))(h1:notStar a=true:=by rfl)(h2:notStar b=true:=by rfl)(hdb:(x == ("__debug__" : Str))=false:=by decide) :
  PE X (.Call (.Name x p) [a,b] [] pos) (tX .F X.K E (QpI i wb)):=by
 refine PE.imp (QaJ (E:=E) G hr hg hm hk hb .nil Ze (QfJ ha (QfJ h JV h2) h1) hdb (Z5 h1) (by rw[Z5 h2];rfl)) λσ H Q ⟨F,δ,R,EX,rel,hw,k,o⟩=>?_
 unfold QpI at hw;split at hw
 ·rename_i hd
  obtain⟨x,hx⟩:=rel.lt hd;obtain⟨l,ns,rfl,sq,np,n63⟩:=rel.sl i _ _ hx hd;refine⟨_,hx,F,δ,_,EX,rel,hw,λd hd2 v H' rel' kp vk=>?_,o⟩;cases d<;>first | exact(show False from hd2).elim | skip
  rw[DP.int vk];exact⟨l,ns,_,rfl,QiS rel' sq np,Yv n63 (by decide),hd2.1,λc=>k _ (hd2.2 c) _ H' rel' kp ⟨.int _,ZT⟩⟩
 ·exact hw.elim
end
section
variable{P:QF}{w:Q9}{K:PySem.W.Frag}{mg:Str->Option Value}{base:JU}
def Qdo(K:PySem.W.Frag):Sp:=λvs H Q _=>∃(a:Addr)(ns:List Int),vs=[.ref a]/\SqL K H a (ns.map V.int)/\ns.length<=63/\∀H',Q (.bl true) H'
def QsU:Qc9:=⟨λ_=>False,λd=>d=.bool true,λd=>d=.bool true,λ_=>False,λ_=>False,XF⟩
end
end Dl
namespace L2
open PySem.Calls _root_.Rd _root_.Rk Dl
def Qa6(base:JU)(mg:Str->Option Value):Prop:=∃bm ob,mg "__builtins__" = some (.ref bm)/\bm≠builtinsNs/\base.get? bm=some ob/\ob.cls=.type "module" /\ ob.dict=some builtinsNs/\ob.data=.plain
def TH(P:Addr)(q:Str)(H:Hp):Prop:=∃t more,H P=some (.tbl (#[.str q t]++more))
theorem QiG{q:Str}{t:Tok}{more:Array Value}:Qt5 (#[.str q t]++more)=q:=by
 unfold Qt5;rw[QbI];rfl
section
variable{X:Cx}{pins:List (Addr×Obj)}{σ:St}{H:Hp}{s:Shared}
theorem Inv.th{P:Addr}{q:Str}(I:Inv X pins σ H s)(h:TH P q X.H₀):TH P q H:=by
 obtain⟨t,more,e⟩:=h;obtain⟨m2,e2⟩:=I.base.tbls P _ e;exact⟨t,more++m2,by rw[e2,Qk4]⟩
def QsB(X:Cx)(R:Qk0->Shared->Prop)(env:Env)(pn bn:Str)(s:Shared)(H:Hp):Cx where
 prog:=X.prog
 w:=X.w
 K:=X.K
 mg:=X.mg
 base:=X.base
 A:=X.A.in1.deeper env
 N:=[pn,bn]
 s₀:=s
 H₀:=H
 env:=env
 outer:=X.stack
 stack:=env::X.stack
 ex:=[]
 fn:=λx=>x != bn
 calm:=true
 pn:=[]
 xe:=λe s'=>wpAny (model X.prog X.w) (X.A.in1.deeper env) (leaving env e) (λ_ s''=>R (.error e) s'') (λe'' s''=>R (.error e'') s'') s'
theorem Qj3{R:Qk0->Shared->Prop}{qual pn bn:Str}{lsc:Z3}{f cb:Addr}{cdv:Value}{h₁:JU}{tk:Tok}{u:Value}{x bv:V}{ib:Nat}
  (I:Inv X pins σ H s)(hc:X.calm=true)(rx:RelV x u)(hib:X.N[ib]? = some bn)(hσ:σ[ib]? = some (some bv))(hkb:X.env.scope.names.lookup bn=some .cell)(hcb:X.env.cells.lookup bn=some cb)
  (sk:lsc.kind=.function)(hcell:∀y∈lsc.names,y.2≠.cell)(hpn:lsc.names.lookup pn=some .local)(hbn:lsc.names.lookup bn=some .free)(hfr:∀y,lsc.names.lookup y=some .free->y=bn)
  (hns:h₁.Ns s.heap.objs.size (λy=>[(pn,u)].reverse.lookup y))(hk₁:∀b o,s.heap.get? b=some o->h₁.get? b=some o) :
  Inv (QsB X R (newEnv lsc s.heap.objs.size mainGlobals [(bn,cb)] (qual ++ ".<locals>.") (some f) cdv none builtinsNs) pn bn s H) [] [some x,some bv] H { s with heap:=h₁,toks:=tk }:=by
 have cb1:∀y c,([(bn,cb)]:List (Str×Addr)).lookup y=some c->y=bn/\c=cb:=λy c e=>by
  rw[QQ] at e;split at e
  ·rename_i q
   exact⟨beq_iff_eq.mp q,(Qq e).symm⟩
  ·cases e
 have cb0:([(bn,cb)]:List (Str×Addr)).lookup bn=some cb:=by rw[QQ,beq_self_eq_true]
 refine⟨⟨I.ok.mod,sk,rfl,rfl,Qk _,λy z c h1 h2=>?_,λy hy=>?_,λy c hy h=>?_,λ_=>I.ok.hd hc,Qhy I.env0.in1.frames,.inr ⟨rfl,rfl⟩,λb z=>absurd (show b∈([]:List Addr) from z) (by simp),I.bs,QV I.ok.bsz I.sz,λb _ _ z=>absurd (show b∈([]:List Addr) from z) (by simp),λb z=>absurd (show b∈([]:List Addr) from z) (by simp),I.stack,I.stkFree⟩,
  rfl,I.bare,Un.kept hk₁,⟨_,hns,λi y v h1 h2 h3=>?_⟩,λy c h=>?_,I.hok.fresh (Qk _),λy c h=>?_,λp hp=>absurd (show p∈([]:List (Addr×Obj)) from hp) (by simp),I.hok.kept hk₁,rfl⟩
 ·exact(cb1 y c h1).1.trans (cb1 z c h2).1.symm
 ·have hy:lsc.names.lookup y=some .cell∨lsc.names.lookup y=some .free:=hy;rcases hy with hy | hy
  ·exact absurd rfl (hcell _ (PySem.mem_of_lookup hy))
  ·rw[hfr y hy];exact⟨cb,cb0⟩
 ·have hy:(y != bn)=true:=hy;rw[(cb1 y c h).1] at hy;simp at hy
 ·match i,h1,h2 with
  |0,h1,h2=>
   have e1:y=pn:=(Qq h1).symm;have e2:v=x:=(Qq (Qq h2)).symm;subst e1;subst e2;exact⟨u,rx,.inl ⟨hpn,by show([(y,u)]:List (Str×Value)).lookup y=some u;rw[QQ,beq_self_eq_true]⟩⟩
  |1,h1,h2=>
   have e1:y=bn:=(Qq h1).symm;have e2:v=bv:=(Qq (Qq h2)).symm;subst e1;subst e2;obtain⟨m,hn,hl⟩:=I.loc;obtain⟨ub,rb,l⟩:=hl ib y v hib hσ (.inr (.inl hkb));refine⟨ub,rb,.inr ⟨.inr hbn,cb,cb0,?_⟩⟩;rcases l with⟨k1,_⟩ | ⟨_,c,e,o,ho,hd⟩
   ·have k1:X.env.scope.names.lookup y=some .local:=k1;rw[hkb] at k1;cases k1
   ·rw[hcb] at e;cases e;exact⟨o,hk₁ _ _ ho,hd⟩
  |i+2,h1,h2=>cases h1
 ·rw[(cb1 y c h).2];obtain⟨v,o,ho,hd⟩:=I.cell bn cb hcb;exact⟨v,o,hk₁ _ _ ho,hd⟩
 ·have:=(cb1 y c h).2;rw[this];exact I.freeC bn cb hcb
theorem QmH{S f c' cb:Addr}{oc:Obj}{vs:Array Value}{t:Tok}{xs:List V}{val:Nat->Int}{H0:Hp}{name qual pn bn wn:Str}{params:Qd9}{lsc:Z3}{pm ctv:Value}{bv:V}{ib k:Nat}{fw:Addr}{fdw:QB}{sp:Sp}{E0:XK}{p1 p2 p3 pos:Pos}{ps2:List Str}
  (F:FnOk X.prog X.w X.K X.mg X.base CX0 k fw fdw ps2 sp)(hr:Room (k+2) X.A)(hb:Binds X.K fdw ps2 [])(hmw:X.mg wn=some (.ref fw))(hkw:PySem.W.keepIn X.K (.ref fw)=true)(hc:X.calm=true)
  (hf:H0 f=some (.frz (PySem.W.kla_obj name qual params (.Call (.Name wn p1) [.Name bn p2,.Name pn p3] [] pos) lsc [(bn,cb)] pm c' ctv) (.own f)))
  (hcd:H0 c'=some (.frz oc (.own c')))(hd:oc.data=.fields vs)(hv:vs[1]? = some (.str qual t))(hS:H0 S=none)
  (hib:X.N[ib]? = some bn)(hσ:σ[ib]? = some (some bv))(hkb:X.env.scope.names.lookup bn=some .cell)(hcb:X.env.cells.lookup bn=some cb)
  (sk:lsc.kind=.function)(sco:lsc.isCoroutine=false)(sge:lsc.isGenerator=false)(hcell:∀y∈lsc.names,y.2≠.cell)(hpn:lsc.names.lookup pn=some .local)(hbn:lsc.names.lookup bn=some .free)(hfr:∀y,lsc.names.lookup y=some .free->y=bn)
  (hwn:lsc.names.lookup wn=some .globalImplicit)(dp:(pn == ("__debug__" : Str))=false)(db:(bn == ("__debug__" : Str))=false)(dw:(wn == ("__debug__" : Str))=false)(dp2:(pn == ("__classdict__" : Str))=false)(db2:(bn == ("__classdict__" : Str))=false)
  (hbind:∀u:Value,bindArgs (PySem.W.kla_fn name qual params (.Call (.Name wn p1) [.Name bn p2,.Name pn p3] [] pos) lsc [(bn,cb)] pm (.ref c') ctv) ⟨[u],[]⟩=pure [(pn,u)])
  (h:∀(i:Nat)(x:V),xs[i]? = some x->∀H,ZA S H0 H->sp [bv,x] H (λv H'=>v=.int (val i)/\Same H H') E0):QeH X σ S f xs val H0:=by
 intro i x u pins' s H E hx rx I kb;have nS:∀b o,H0 b=some o->b≠S:=λb o e z=>by rw[z,hS] at e;cases e
 have gf:=(I.hok f _ (kb f _ (nS _ _ hf) hf)).1;have gc:=(I.hok c' _ (kb c' _ (nS _ _ hcd) hcd)).1;refine QtF (Qch (R:=CR CX0 X.stack X.prog X.w H s (λv H'=>v=.int (val i)/\Same H H') E0) ?_ λr s' hq=>?_)
 ·refine PySem.W.kla_callFunE hr.in1.depth gf rfl sco sge rfl ⟨c',oc,vs,t,rfl,gc,hd,hv⟩ ?_
  rw[hbind u];refine Qh (Y9 hcell (λy hy=>by rw[Q0.mp hy];exact hpn) (λh₁ hns hsb=>⟨(I.mod.nolimit.keeps I.bk).fresh _ hsb,?_⟩) sk);have hk₁:∀b o,s.heap.get? b=some o->h₁.get? b=some o:=λb o e=>hsb.extBut b o (Qu (Qi e)) (Qd _ e)
  refine PySem.W.kla_codeExpr ?_
  have I':=Qj3 (R:=CR CX0 X.stack X.prog X.w H s (λv H'=>v=.int (val i)/\Same H H') E0) (qual:=qual) (f:=f) (cdv:=.ref c') (tk:=s.toks+1) I hc rx hib hσ hkb hcb sk hcell hpn hbn hfr hns hk₁;refine wpAny_mono ((QaJ (X:=QsB X (CR CX0 X.stack X.prog X.w H s (λv H'=>v=.int (val i)/\Same H H') E0) (newEnv lsc s.heap.objs.size mainGlobals [(bn,cb)] (qual ++ ".<locals>.") (some f) (.ref c') none builtinsNs) pn bn s H) (pos:=pos) (p:=p1) (x:=wn) (E:=E0) F (hr.in1.deeper _) hwn hmw hkw hb .nil Ze
   (Jl (e:=.Name bn p2) (Qje (i:=1) rfl (.inr (.inr hbn)) db db2) (Jl (e:=.Name pn p3) (Qje (i:=0) rfl (.inl hpn) dp dp2) JV)) dw) [] _ [some x,some bv] H _ I' ⟨bv,rfl,x,rfl,h i x hx H kb⟩) (λv s' hq=>?_) λe s' y=>y
  obtain⟨v',H',J,rv,q⟩:=hq;exact⟨v',H',J.os,J.bare,J.base,J.hok,rv,q⟩
 ·cases r with
  |error e=>exact J6 hq
  |ok fl=>
   cases fl with
   |ret u'=>
    obtain⟨v,H',I',rv,rfl,sm⟩:=I.after hq;obtain⟨t,rfl⟩:∃t,u'=.int (val i) t:=by
     first
     |exact rv
     |(cases rv;exact⟨_,rfl⟩)
    exact⟨t,H',rfl,I',sm⟩
   |next=>exact J6 hq
   |brk=>exact J6 hq
   |cont=>exact J6 hq
end
theorem Qez{pos:Pos}{a b:Int}{c v:Value}(l:List Value)(h:TriplesOk l)(hn:codeAmong pos (l++[rawInt a,rawInt b,c])=some v):codeAmong pos l=some v∨v=c:=by
 fun_induction TriplesOk l with
 |case1=>
  simp only[QpZ,codeAmong,rawInt] at hn;split at hn
  ·exact .inr (Qq hn).symm
  ·cases hn
 |case2 a' t b' u x rest ih=>
  simp only[List.cons_append,codeAmong] at hn ⊢;split at hn
  ·rename_i hc;rw[if_pos hc];exact .inl hn
  ·rename_i hc;rw[if_neg hc];exact ih h hn
 |case3 l h1 h2=>exact h.elim
section
variable{X:Cx}{pins:List (Addr×Obj)}{σ:St}{H:Hp}{s:Shared}
theorem QmI{P c cb:Addr}{q bn:Str}{params:Qd9}{body:QM}{lsc:Z3}{pos:Pos}{E:Value->Shared->Prop}
  (I:Inv X pins σ H s)(hT:TH P q X.H₀)(hq:q=X.env.qual ++ "<lambda>")(hC:PySem.W.CodeHd X.base c P)(hcode:X.env.code=.ref c)(hB:Qa6 X.base X.mg)
  (hcl:closureFor lsc X.env=pure [(bn,cb)])(hdef:defaultsOf params X.env=([],[])) :
  wpAny (model X.prog X.w) X.A (eval (.Lambda params body lsc pos) X.env) (λv s'=>∃f c' oc vs t pm ctv H',v=.ref f/\Inv X pins σ H' s'/\Same H H'/\H' f=some (.frz (PySem.W.kla_obj "<lambda>" q params body lsc [(bn,cb)] pm c' ctv) (.own f)) /\
   H' c'=some (.frz oc (.own c'))/\oc.data=.fields vs/\vs[1]? = some (.str q t)) E s:=by
 obtain⟨t0,more,eP⟩:=I.th hT;obtain⟨qs,gP,tri,cods⟩:=I.hok P _ eP;simp only[QiG] at cods;have hgs:s.heap.Ns mainGlobals X.mg:=I.mod.glob.keeps I.bk;have neB:∀b o,X.base.get? b=some o->b≠P:=λb o e z=>by
  rw[z] at e;have:=(I.bs P o e).2;rw[eP] at this;cases this
 have hgP:mainGlobals≠P:=by
  obtain⟨o,es,ep,e,_⟩:=I.mod.glob;exact neB _ _ e
 obtain⟨bm,ob,b1,b2,b3,b4,b5,b6⟩:=hB;have hbG:bm≠mainGlobals:=λz=>by
  obtain⟨o,es,ep,e,hd,_⟩:=I.mod.glob;rw[z,e] at b3;cases b3;rw[hd] at b6;cases b6
 have bat:s.heap.BuiltinsAt X.mg P:=⟨bm,ob,b1,b2,hbG,neB _ _ b3,I.bk _ _ b3,b4,b5,b6⟩;refine PySem.W.kla_eval hdef ?_
 rw[<- hq];cases hca:codeAmong pos qs.toList with
 |none=>
  refine PySem.W.kla_makeFunction (mg:=X.mg) hcl I.ok.glob hgs hcode (hC.keeps I.bk) gP tri hca hgP bat λc' ctv h' tk hx hge hlt hrec htb=>?_
  obtain⟨c₂,oc,vs,t,e2,hoc,hd,hv⟩:=hrec;cases e2;have hc0:H c'=none:=I.hok.fresh hge;have hf0:H h'.objs.size=none:=I.hok.fresh (QV hge (Zs hlt));have ncf:c'≠h'.objs.size:=Qu hlt;generalize ho:(PySem.W.kla_obj "<lambda>" q params body lsc [(bn,cb)] ((X.mg "__name__").getD .none) c' ctv)=fo;generalize hH:upd (upd H c' (.frz oc (.own c'))) h'.objs.size (.frz fo (.own h'.objs.size))=H2;have H2s:∀b u,H b=some u->H2 b=some u:=λb u e=>by
   rw[<- hH,Q5 (JA e hf0),Q5 (JA e hc0)];exact e
  have H2f:H2 h'.objs.size=some (.frz fo (.own h'.objs.size)):=by rw[<- hH];exact Q8
  have H2c:H2 c'=some (.frz oc (.own c')):=by rw[<- hH,Q5 ncf];exact Q8
  have H2n:∀b,b≠h'.objs.size->b≠c'->H2 b=H b:=λb h1 h2=>by rw[<- hH,Q5 h1,Q5 h2]
  have kp:∀b o,b≠P->s.heap.get? b=some o->(h'.push fo).get? b=some o:=λb o hb e=>Qd _ (hx b o hb e)
  have nP:∀b,H b=none->b≠P:=λb n z=>by rw[z,eP] at n;cases n
  have gP':(h'.push fo).get? P=some _:=Qd _ htb;have old:∀b o,s.heap.get? b=some o->b≠h'.objs.size/\b≠c':=λb o e=>by
   have:=Qi e;exact⟨Qu (QH this (QV hge (Zs hlt))),Qu (QH this hge)⟩
  refine⟨h'.objs.size,c',oc,vs,t,_,ctv,H2,rfl,?_,H2s,by rw[ho];exact H2f,H2c,hd,hv⟩;refine I.un (h':=h'.push fo) (t':=tk) ⟨λb o e n _ _=>kp b o (nP b n) e,λb o e n _ _=>⟨o.slots,kp b o (nP b n) e⟩,λb o e n _=>?_,λb o e _=>?_,λb xs e=>H2s _ _ e,λb o u e=>H2s _ _ e,λb ps e=>⟨#[],by rw[H2s _ _ e];simp⟩⟩ λb u e=>?_
  ·obtain⟨o1,o2⟩:=old b o e;rw[H2n b o1 o2];exact n
  ·by_cases z:b=P
   ·rw[z];exact⟨_,gP'⟩
   ·exact⟨o,kp b o z e⟩
  ·by_cases z1:b=h'.objs.size
   ·rw[z1] at e ⊢;rw[H2f] at e;cases e;have fr:fo.isFreed=false:=by rw[<- ho];rfl
    exact⟨Qp _ fr,_,Qp _ fr⟩
   ·by_cases z2:b=c'
    ·rw[z2] at e ⊢;rw[H2c] at e;cases e;exact⟨Qd _ hoc,_,Qd _ hoc⟩
    ·rw[H2n b z1 z2] at e;by_cases z3:b=P
     ·rw[z3] at e ⊢;rw[eP] at e;cases e;refine⟨_,gP',?_,λpos' v hv'=>?_⟩
      ·rw[QbI];exact TriplesOk_snoc _ _ _ _ tri
      ·rw[QbI] at hv';rw[QiG];rcases Qez _ tri hv' with y | y
       ·obtain⟨c3,oc3,vs3,t3,e1,e2,e3,e4⟩:=cods pos' v y;exact⟨c3,oc3,vs3,t3,e1,H2s _ _ e2,e3,e4⟩
       ·exact⟨c',oc,vs,t,y,H2c,hd,hv⟩
     ·refine(I.hok b u e).stay (λc v hc q=>kp c v ?_ q) (λc r=>H2s _ _ r) (λc xs r=>H2s _ _ r) λc z u r=>H2s _ _ r
      rcases hc with rfl | hc
      ·exact z3
      ·exact λy=>by rw[y,eP] at hc;cases hc
 |some cv=>
  obtain⟨c',oc,vs,t,rfl,Hc,hd,hv⟩:=cods pos cv hca;refine PySem.W.kla_makeFunctionHit (mg:=X.mg) hcl I.ok.glob hgs hcode (hC.keeps I.bk) gP tri hca bat λctv h' tk hx hsz=>?_
  have hf0:H h'.objs.size=none:=I.hok.fresh hsz;refine⟨h'.objs.size,c',oc,vs,t,((X.mg "__name__").getD .none),ctv,upd H h'.objs.size (.frz (PySem.W.kla_obj "<lambda>" q params body lsc [(bn,cb)] ((X.mg "__name__").getD .none) c' ctv) (.own h'.objs.size)),rfl,?_,λb u e=>by rw[Q5 (JA e hf0)];exact e,Q8,by rw[Q5 (JA Hc hf0)];exact Hc,hd,hv⟩;exact I.laid (h':=h'.push _) (t':=tk) (λb u e=>Qd _ (hx b u e)) hsz ⟨Qp _ rfl,_,Qp _ rfl⟩
end
section
variable{X:Cx}{k:Nat}{fw:Addr}{fdw:QB}{ps2:List Str}{sp:Sp}{E0:XK}
def Qn4(sp:Sp)(E0:XK)(ib:Nat)(t:TE):TE:=λσ H Q=>t σ H λv H1=>∃(l:Addr)(xs:List V)(val:Nat->Int)(bv:V),v=.ref l/\H1 l=some (.lst xs)/\σ[ib]? = some (some bv) /\
 (∀(S:Addr)(i:Nat)(x:V),H1 S=none->xs[i]? = some x->∀H,ZA S H1 H->sp [bv,x] H (λv H'=>v=.int (val i)/\Same H H') E0)/\(xs=[]->∀H',Same H1 H'->Q .non H')/\∀x,xs[bstI val (xs.length - 1)]? = some x->∀H',Same H1 H'->Q x H'
theorem Qjg{e:QM}{t:TE}{P c cb:Addr}{q bn pn wn:Str}{params:Qd9}{lsc:Z3}{ib:Nat}{p lp kp cp kp2 pos p1 p2 p3 bp:Pos}
  (F:FnOk X.prog X.w X.K X.mg X.base CX0 k fw fdw ps2 sp)(hr:Room (k+2) X.A)(hg:Gl X "min")(hm:X.mg "min" = none)(hb:Binds X.K fdw ps2 [])(hmw:X.mg wn=some (.ref fw))(hkw:PySem.W.keepIn X.K (.ref fw)=true)(hc:X.calm=true)
  (hT:TH P q X.H₀)(hq:q=X.env.qual ++ "<lambda>")(hC:PySem.W.CodeHd X.base c P)(hcode:X.env.code=.ref c)(hB:Qa6 X.base X.mg)(hcl:closureFor lsc X.env=pure [(bn,cb)])(hdef:defaultsOf params X.env=([],[]))
  (hib:X.N[ib]? = some bn)(hkb:X.env.scope.names.lookup bn=some .cell)(hcb:X.env.cells.lookup bn=some cb)
  (sk:lsc.kind=.function)(sco:lsc.isCoroutine=false)(sge:lsc.isGenerator=false)(hcell:∀y∈lsc.names,y.2≠.cell)(hpn:lsc.names.lookup pn=some .local)(hbn:lsc.names.lookup bn=some .free)(hfr:∀y,lsc.names.lookup y=some .free->y=bn)
  (hwn:lsc.names.lookup wn=some .globalImplicit)(dp:(pn == ("__debug__" : Str))=false)(db:(bn == ("__debug__" : Str))=false)(dw:(wn == ("__debug__" : Str))=false)(dp2:(pn == ("__classdict__" : Str))=false)(db2:(bn == ("__classdict__" : Str))=false)
  (hbind:∀(pm ctv:Value)(c':Addr)(u:Value),bindArgs (PySem.W.kla_fn "<lambda>" q params (.Call (.Name wn p1) [.Name bn p2,.Name pn p3] [] bp) lsc [(bn,cb)] pm (.ref c') ctv) ⟨[u],[]⟩=pure [(pn,u)])
  (h:PE X e t)(he:starEach [e] X.env=(false,eval e X.env)::starEach [] X.env) :
  PE X (.Call (.Name "min" p) [e] [⟨some "key",.Lambda params (.Call (.Name wn p1) [.Name bn p2,.Name pn p3] [] bp) lsc lp,kp⟩,⟨some "default",.Constant .none 0 cp,kp2⟩] pos) (Qn4 sp E0 ib t):=by
 intro pins s σ H Q I hh;refine YG (Qbw I hg hm (by rfl) ?_ (by decide) (by decide));have hh:QeZ t Qrr σ H (λvs H1=>match vs with
   |[v]=>∃(l:Addr)(xs:List V)(val:Nat->Int)(bv:V),v=.ref l/\H1 l=some (.lst xs)/\σ[ib]? = some (some bv) /\
    (∀(S:Addr)(i:Nat)(x:V),H1 S=none->xs[i]? = some x->∀H,ZA S H1 H->sp [bv,x] H (λv H'=>v=.int (val i)/\Same H H') E0)/\(xs=[]->∀H',Same H1 H'->Q .non H')/\∀x,xs[bstI val (xs.length - 1)]? = some x->∀H',Same H1 H'->Q x H'
   |_=>False):=hh
 refine PyProof.Rows.callWith_kw (thn ((Jl h JV he) pos pins s σ H _ I hh) λus s1 ⟨vs,H1,I1,r1,q1⟩=>?_) ?_ ?_ ?_ ?_
 ·dsimp only at q1
  split at q1
  ·obtain⟨l,xs,val,bv,rfl,hl,hσ,hk,hN,hQ⟩:=q1;obtain⟨u,rfl,ru⟩:=vals1 r1;cases ru;refine kws_cons (wpAny_mono (QmI I1 hT hq hC hcode hB hcl hdef) (λv s2 hv=>?_) λ_ _ y=>y);obtain⟨f,c',oc,vs,tt,pm,ctv,H2,rfl,I2,sm,hf,hcd,hd,hvs⟩:=hv;refine kws_cons (Constant_none (kws_nil ?_));show wpAny (model X.prog X.w) X.A (call (.builtin "min") [.ref l] [("key",.ref f),("default",.none)]) _ _ s2;have nS:∀S,H2 S=none->H1 S=none:=λS hS=>by
    cases y:H1 S with
    |none=>rfl
    |some o=>rw[sm _ _ y] at hS;cases hS
   refine Qfq (dv:=some (.non,.none)) hc I2 (sm _ _ hl) (λp hp=>by cases hp;rfl) (λS hS=>QmH F hr hb hmw hkw hc hf hcd hd hvs hS hib hσ hkb hcb sk sco sge hcell hpn hbn hfr hwn dp db dw dp2 db2 (hbind pm ctv c') λi x hx H3 kb=>hk S i x (nS S hS) hx H3 λb o hb e=>kb b o hb (sm _ _ e)) (λe=>⟨_,rfl,λH' s2=>hN e H' (sm.trans s2)⟩) λx hx H' s2=>hQ x hx H' (sm.trans s2)
  ·exact q1.elim
 ·rw[he];rfl
 ·rw[he];rfl
 ·rfl
 ·rfl
end
end L2
namespace Dl
open L2 _root_.Rd Rk
theorem QnP{α:Type}{p:α->Prop}:∀x∈([]:List α),p x:=λ_ h=>nomatch h
theorem Qbf{α:Type}{p:α->Prop}{a:α}{l:List α}(h:p a)(t:∀x∈l,p x):∀x∈a::l,p x:=λx hx=>by
 rcases Qy.mp hx with z | z
 ·rw[z];exact h
 ·exact t x z
theorem Qtd{b c:Bool}{R:Qa->Prop}(h:R (.bool (b&&c))):if b=true then R (.bool c) else R (.bool false):=by
 cases b
 ·exact QeN h
 ·exact Qg4 h
theorem QkV{b c:Bool}{R:Qa->Prop}{Pk:Prop}(h:R (.bool (b&&c)))(k:b=true->R (.bool c)->Pk):if b=true then Pk else R (.bool false):=by
 cases b
 ·exact QeN h
 ·exact Qg4 (k rfl h)
theorem ifF{c:Bool}{A B:Prop}(h:c=false)(k:B):if c=true then A else B:=by subst h;exact k
theorem ifT{c:Bool}{A B:Prop}(h:c=true)(k:A):if c=true then A else B:=by subst h;exact k
theorem ifC{c:Bool}{A B:Prop}(t:c=true->A)(f:c=false->B):if c=true then A else B:=by
 cases c
 ·exact f rfl
 ·exact t rfl
theorem all_map{α:Type}(l:List α)(g:α->Bool):(l.map g).all id=l.all g:=by
 rw[QtU];rfl
theorem Qgr{ds:List Qa}{Q:Qa->Prop}{g:Qa->Bool}{items:List Qa}(h:ds=[.list (items.map λd=>.bool (g d))])(q:Q (.bool (items.all g))):QtC ds Q:=by
 subst h;unfold QtC;refine⟨items.map g,?_,by rw[all_map];exact q⟩;rw[show items.map (λd=>Zi (g d))=(items.map g).map Zi by rw[Je];rfl,Qfw]
theorem Qpi{ds:List Qa}{Q:Qa->Prop}(ns:List Int)(h:ds=[.list (ns.map Qf)])(h0:0<ns.length)(q:∀m,m∈ns->(∀y∈ns,m<=y)->Q (.int m)):Qmx ds Q:=by
 subst h;unfold Qmx;exact⟨ns,ints_map ns,h0,q⟩
end Dl
namespace L2
section
variable{X:Cx}
end
end L2
namespace Dl
open L2 _root_.Rd Rk
section
variable{X:Cx}{E:XK}
variable{e:QM}{w:DE}{p p2 pos pos2:Pos}
end
theorem Qtc{ds:List Qa}{i:Int}(h0:0<=i)(h1:i<ds.length):∃d,d∈ds/\atI ds i=some d:=by
 obtain⟨j,rfl⟩:∃j:Nat,i=j:=⟨i.toNat,by omega⟩
 have hj:j<ds.length:=by omega
 exact⟨ds[j],Qa1 hj,Zk (Qg hj)⟩
theorem QuC{ds:List Qa}{i:Int}{Q:Qa->Prop}(h0:0<=i)(h1:i<ds.length)(q:∀d∈ds,Q d):∃d,atI ds i=some d/\Q d:=by
 obtain⟨d,hd,e⟩:=Qtc h0 h1;exact⟨d,e,q d hd⟩
theorem QmR{xs:List Qa}{lo hi:Option Int}{d:Qa}(h:d∈cutD xs lo hi):d∈xs:=List.mem_of_mem_drop (List.mem_of_mem_take h)
structure QE (m:Md) (X:Cx) (E:XK) (e:QM) (w:DE):Prop where h:PE X e (tX m X.K E w)
structure QT (X:Cx) (E:XK) (e:QM) (w:DT):Prop where h:PT X e (tT X.K E w)
structure QW (X:Cx) (E:XK) (e:QM) (w:DT):Prop where h:PW X e (tT X.K E w)
structure QTs (X:Cx) (E:XK) (es:List QM) (w:DT):Prop where h:PTs X es (tT X.K E w)
structure QA (n:Nat) (m:Md) (X:Cx) (E:XK) (es:List QM) (w:DAr):Prop where h:PA X es (tAr n m X.K E w)
structure QAs (X:Cx) (E:XK) (es:List QM) (w:DSl):Prop where h:PA X es (tAs X.K E w)
structure QO (X:Cx) (E:XK) (o:Option QM) (w:DO):Prop where h:PO X o (tO X.K E w)
structure QG (ix:List Nat) (X:Cx) (tg:QM) (w:DG):Prop where h:PG X tg (tG ix X.K w)
structure QI (m:Md) (X:Cx) (E:XK) (tg it:QM) (w:DI):Prop where h:PI X tg it (tI m X.K E w)
structure QS (X:Cx) (E:XK) (st:ZH) (w:DS):Prop where h:PS X st (tS X.K E w)
structure QSs (X:Cx) (E:XK) (sts:List ZH) (w:DS):Prop where h:PSs X sts (tS X.K E w)
section
variable{X:Cx}{E:XK}
theorem JR{e:QM}{w:DE}(h:QE .F X E e w):QE .D X E e w:=⟨toD h.h⟩
theorem Jb{e:QM}{w:DE}(h:QE .D X E e w):QE .P X E e w:=⟨toP h.h⟩
theorem QP{e:QM}{w:DE}(h:QE .F X E e w):QE .P X E e w:=⟨QvF h.h⟩
theorem qv(i:Nat){x:Str}{pos:Pos}(hN:X.N[i]? = some x:=by rfl)(hv:Vis X.env.scope x:=by first | exact QZ rfl | exact QU (QZ rfl) | exact QU (QU rfl))(hd:(x == ("__debug__" : Str))=false:=by decide)(hcd:(x == ("__classdict__" : Str))=false:=by decide):QE .D X E (.Name x pos) (QuQ i):=⟨Qr3 (pv i hN hv hd hcd)⟩
theorem qp(i:Nat){x:Str}{pos:Pos}(hN:X.N[i]? = some x:=by rfl)(hv:Vis X.env.scope x:=by first | exact QZ rfl | exact QU (QZ rfl) | exact QU (QU rfl))(hd:(x == ("__debug__" : Str))=false:=by decide)(hcd:(x == ("__classdict__" : Str))=false:=by decide):QE .P X E (.Name x pos) (dPk i):=⟨Qus (pv i hN hv hd hcd)⟩
theorem Jo{i:Int}{j pos}:QE .D X E (.Constant (.int i) j pos) (dC (.int i)):=⟨Qsa⟩
theorem Qul{b:Bool}{j pos}:QE .D X E (.Constant (.bool b) j pos) (dC (.bool b)):=⟨Quw⟩
theorem QrO{j pos}:QE .D X E (.Constant .none j pos) (dC .none):=⟨Qr7⟩
theorem QgL{x:Str}(i:Int){u:Value}{pos:Pos}(hg:Gl X x)(hm:X.mg x=some u)(r:RelV (.int i) u)(hd:(x == ("__debug__" : Str))=false:=by decide):QE .D X E (.Name x pos) (dC (.int i)):=⟨Qtv (QoA hg hm r hd) λ_ _=>.int i⟩
theorem Yf{a b:QM}{wa wb:DE}{pos:Pos}{r:R2}{rD:Qa->Qa->(Qa->Prop)->Prop}{op:Qd3}(ho:OpR X (binaryOp op) r)(hd:OpD r rD)(ha:QE .P X E a wa)(hb:QE .P X E b wb):QE .F X E (.BinOp a op b pos) (dOp rD wa wb):=⟨Qsd ho hd ha.h hb.h⟩
theorem Qbq{a b:QM}{wa wb:DE}{pos:Pos}{r:R2}{rD:Qa->Qa->(Qa->Prop)->Prop}{op:Qhw}(ho:OpR X (compareOp op) r)(hd:OpD r rD)(ha:QE .P X E a wa)(hb:QE .P X E b wb)(hm:behindInMarks op b=false):QE .F X E (.Compare a [op] [b] pos) (dOp rD wa wb):=⟨Qsc ho hd ha.h hb.h hm⟩
theorem YB{a b:QM}{wa wb:DE}{pos:Pos}{r:R2}{rD:Qa->Qa->(Qa->Prop)->Prop}{op:Qhw}(ho:OpR X (compareOp op) r)(hd:OpD r rD)(ha:QE .P X E a wa)(hb:QE .P X E b wb)(hm:behindInMarks op b=false):QT X E (.Compare a [op] [b] pos) (dTst (dOp rD wa wb)):=⟨QoG ho hd ha.h hb.h hm⟩
theorem Qcj{a b:QM}{wa wb:DE}{pos:Pos}{r:R2}{rD:Qa->Qa->(Qa->Prop)->Prop}(ho:IxR X r)(hd:QpT r rD)(ha:QE .P X E a wa)(hb:QE .P X E b wb)(hs:Qgs b):QE .D X E (.Subscript a b pos) (dOp rD wa wb):=⟨Quu ho hd ha.h hb.h hs⟩
theorem QlI{a:QM}{wa:DE}{pos:Pos}(ha:QE .P X E a wa):QE .F X E (.UnaryOp .USub a pos) (dUn Qvg wa):=⟨Qr8 ha.h⟩
theorem QvS{a b c:QM}{wa wb wc:DE}{pos:Pos}{op op':Qhw}{p q:Int->Int->Bool}(ho:OpR X (compareOp op) (rI0 λi j=>.bl (p i j)))(ho':OpR X (compareOp op') (rI0 λi j=>.bl (q i j)))(ha:QE .P X E a wa)(hb:QE .P X E b wb)(hc:QE .P X E c wc)(hm:lastMarks [op,op'] [b,c]=false:=by with_unfolding_all rfl):QE .F X E (.Compare a [op,op'] [b,c] pos) (dCh p q wa wb wc):=⟨Quv ho ho' ha.h hb.h hc.h hm⟩
theorem Quk{a b c:QM}{wa wb wc:DE}{pos:Pos}{op op':Qhw}{p q:Int->Int->Bool}(ho:OpR X (compareOp op) (rI0 λi j=>.bl (p i j)))(ho':OpR X (compareOp op') (rI0 λi j=>.bl (q i j)))(ha:QE .P X E a wa)(hb:QE .P X E b wb)(hc:QE .P X E c wc)(hm:lastMarks [op,op'] [b,c]=false:=by with_unfolding_all rfl):QT X E (.Compare a [op,op'] [b,c] pos) (dTst (dCh p q wa wb wc)):=⟨Qr1 ho ho' ha.h hb.h hc.h hm⟩
theorem Qnm{e:QM}{w:DE}(h:QE .P X E e w)(he:∀whole,isTrue e X.env whole=(do let v <- whole;standAt e.pos;holding [v] (truthy v)):=by intro _;rfl):QT X E e (dTru w):=⟨QoE h.h he⟩
theorem QcF{e:QM}{w:DE}(h:QE .P X E e w)(he:∀whole,isTrue e X.env whole=(do let v <- whole;standAt e.pos;holding [v] (truthy v)):=by intro _;rfl):QT X E e (dTst w):=⟨QoD h.h he⟩
theorem Qeg{a:QM}{pos:Pos}{ta:DT}(ha:QT X E a ta):QW X E (.BoolOp .And [a] pos) ta:=⟨QlV ha.h⟩
theorem QgK{a b:QM}{rest:List QM}{pos:Pos}{ta tb:DT}(ha:QT X E a ta)(hb:QW X E (.BoolOp .And (b::rest) pos) tb):QW X E (.BoolOp .And (a::b::rest) pos) (Qvz ta tb):=⟨QoC ha.h hb.h⟩
theorem Qdh{a b:QM}{rest:List QM}{pos:Pos}{wa wb:DE}(ha:QE .P X E a wa)(hb:QE .D X E (.BoolOp .And (b::rest) pos) wb):QE .D X E (.BoolOp .And (a::b::rest) pos) (Qs8 wa wb):=⟨Qse ha.h hb.h⟩
theorem Qnl{a:QM}{pos:Pos}{ta:DT}(ha:QT X E a ta):QW X E (.BoolOp .Or [a] pos) ta:=⟨QoB ha.h⟩
theorem QrK{a b:QM}{rest:List QM}{pos:Pos}{ta tb:DT}(ha:QT X E a ta)(hb:QW X E (.BoolOp .Or (b::rest) pos) tb):QW X E (.BoolOp .Or (a::b::rest) pos) (dOr ta tb):=⟨Qr0 ha.h hb.h⟩
theorem Qve{a b:QM}{rest:List QM}{pos:Pos}{wa wb:DE}(ha:QE .P X E a wa)(hb:QE .D X E (.BoolOp .Or (b::rest) pos) wb):QE .D X E (.BoolOp .Or (a::b::rest) pos) (Qvq wa wb):=⟨Qut ha.h hb.h⟩
theorem Qp2{e:QM}{t:DT}(h:QW X E e t):QT X E e t:=⟨PW.pt h.h⟩
theorem QcG{a:QM}{pos:Pos}{ta:DT}(ha:QT X E a ta):QT X E (.UnaryOp .Not a pos) (Qvr ta):=⟨QoF ha.h⟩
theorem QcI{op}{a:QM}{pos:Pos}{w:DE}(h:QE .D X E a w):QE .D X E (.BoolOp op [a] pos) w:=⟨Qr5 h.h⟩
theorem Qon{a:QM}{pos:Pos}{wa:DE}(ha:QE .P X E a wa):QE .D X E (.UnaryOp .Not a pos) (Qs5 wa):=⟨Qr6 ha.h⟩
theorem QrQ{c a b:QM}{pos:Pos}{ta:DT}{wa wb:DE}(hc:QT X E c ta)(ha:QE .D X E a wa)(hb:QE .D X E b wb):QE .D X E (.IfExp c a b pos) (Qvw ta wa wb):=⟨Qsb hc.h ha.h hb.h⟩
theorem Q1{m:Md}:QA 0 m X E [] Qvs:=⟨QoS⟩
theorem Qab{n:Nat}{e:QM}{es:List QM}{we:DE}{wr:DAr}(he:QE .D X E e we)(hr:QA n .D X E es wr)(hs:notStar e=true:=by rfl):QA (n+1) .D X E (e::es) (Qkt we wr):=⟨Qjn he.h hr.h hs⟩
theorem YE{n:Nat}{e:QM}{es:List QM}{we:DE}{wr:DAr}(he:QE .P X E e we)(hr:QA n .P X E es wr)(hs:notStar e=true:=by rfl):QA (n+1) .P X E (e::es) (Qkt we wr):=⟨Qjm he.h hr.h hs⟩
theorem Qaz{n:Nat}{es:List QM}{w:DAr}{x1}{pos:Pos}(h:QA n .D X E es w)(hn:n<=1000:=by decide):QE .F X E (.Tuple es x1 pos) (Qvm w):=⟨Qr4 h.h hn⟩
theorem Qah{n:Nat}{es:List QM}{w:DAr}{pos:Pos}(h:QA n .D X E es w)(hn:n<=1000:=by decide):QE .F X E (.List es pos) (Qvt w):=⟨Qr9 h.h hn⟩
theorem JI{x:Str}{bid:String}{p pos:Pos}{e:QM}{es:List QM}{n:Nat}{wr:DAr}{r:List V->Hp->VK->Prop}{rD:List Qa->(Qa->Prop)->Prop}(hc:CallR X (.builtin bid) r)(hd:QaA r rD)(hg:Gl X x)(hm:X.mg x=none)(hv:bootBuiltins x=some (.builtin bid))(ha:QA n .P X E (e::es) wr)(hn:x ≠ "__name__" := by decide)(hdb:(x == ("__debug__" : Str))=false:=by decide)(he:starEach (e::es) X.env=(false,eval e X.env)::starEach es X.env:=by rfl)(hpl:(backTo pos (starEach es X.env)).any (·.1)=false:=by rfl):QE .F X E (.Call (.Name x p) (e::es) [] pos) (dCB rD wr):=⟨Qme hc hd hg hm hv ha.h hn hdb he hpl⟩
theorem Qai{x:Str}{T:String}{p pos:Pos}{e:QM}{es:List QM}{n:Nat}{wr:DAr}{r:List V->Hp->VK->Prop}{rD:List Qa->(Qa->Prop)->Prop}(hc:CallR X (.type T) r)(hd:QaA r rD)(hg:Gl X x)(hm:X.mg x=none)(hv:bootBuiltins x=some (.type T))(ha:QA n .P X E (e::es) wr)(hn:x ≠ "__name__" := by decide)(hdb:(x == ("__debug__" : Str))=false:=by decide)(he:starEach (e::es) X.env=(false,eval e X.env)::starEach es X.env:=by rfl)(hpl:(backTo pos (starEach es X.env)).any (·.1)=false:=by rfl):QE .F X E (.Call (.Name x p) (e::es) [] pos) (dCB rD wr):=⟨Qjo hc hd hg hm hv ha.h hn hdb he hpl⟩
theorem Qe7{e:QM}{we:DE}{p pos pos2:Pos}{x:Str}(tn:Tn)(hg:Gl X "isinstance")(hm:X.mg "isinstance" = none)(he:QE .P X E e we)(hg2:Gl X x)(hm2:X.mg x=none)(hv:bootBuiltins x=some (.type tn.s))(hn:x ≠ "__name__" := by decide)(hd:(x == ("__debug__" : Str))=false:=by decide)(h1:notStar e=true:=by rfl):QE .F X E (.Call (.Name "isinstance" p) [e,.Name x pos2] [] pos) (Qs6 tn we):=⟨QoU tn hg hm he.h (Qux tn hg2 hm2 hv hn hd) h1 rfl⟩
theorem Qok  : QO X E none dNo:=⟨Ql6⟩
theorem Qoj{e:QM}{we:DE}(he:QE .P X E e we):QO X E (some e) (dSo we):=⟨Ql5 he.h⟩
theorem Qom{e:QM}{lo hi:Option QM}{we:DE}{wl wh:DO}{p2 pos:Pos}(he:QE .P X E e we)(hl:QO X E lo wl)(hh:QO X E hi wh):QE .F X E (.Subscript e (.Slice lo hi none p2) pos) (dSl we wl wh):=⟨Qmb he.h hl.h hh.h⟩
theorem JD  : QAs X E [] Qu0:=⟨QoL⟩
theorem Z2{e:QM}{es:List QM}{we:DE}{wr:DSl}(he:QE .D X E e we)(hr:QAs X E es wr)(hs:notStar e=true:=by rfl):QAs X E (e::es) (sV we wr):=⟨Qur he.h hr.h hs⟩
theorem Qa3(i:Nat){x:Str}{pos:Pos}{es:List QM}{wr:DSl}(hr:QAs X E es wr)(hN:X.N[i]? = some x:=by rfl)(hv:Vis X.env.scope x:=by first | exact QZ rfl | exact QU (QZ rfl) | exact QU (QU rfl))(hd:(x == ("__debug__" : Str))=false:=by decide)(hcd:(x == ("__classdict__" : Str))=false:=by decide):QAs X E (.Name x pos::es) (Qud i wr):=⟨QoJ (pv i hN hv hd hcd) hr.h rfl⟩
theorem ZC{CX:CXT}{k:Nat}{f:Addr}{fd:QB}{ps:List Str}{x:Str}{p pos:Pos}{e:QM}{es:List QM}{fD:DF}{wa:DSl}(G:FnOk X.prog X.w X.K X.mg X.base CX k f fd ps (JK false fD))(hr:Room k X.A)(hg:Gl X x)(hm:X.mg x=some (.ref f))(hk:PySem.W.keepIn X.K (.ref f)=true)(hb:Binds X.K fd ps [])(hx:Y0 CX X E)(ha:QAs X E (e::es) wa)(hdb:(x == ("__debug__" : Str))=false:=by decide)(he:starEach (e::es) X.env=(false,eval e X.env)::starEach es X.env:=by rfl)(hpl:(backTo pos (starEach es X.env)).any (·.1)=false:=by rfl):QE .D X E (.Call (.Name x p) (e::es) [] pos) (Qh2 fD wa):=⟨QoX G hr hg hm hk hb hx ha.h hdb he hpl⟩
theorem Z6{CX:CXT}{k:Nat}{f:Addr}{fd:QB}{ps:List Str}{x:Str}{p pos:Pos}{e:QM}{es:List QM}{fD:DF}{wa:DSl}(G:FnOk X.prog X.w X.K X.mg X.base CX k f fd ps (JK true fD))(hr:Room k X.A)(hg:Gl X x)(hm:X.mg x=some (.ref f))(hk:PySem.W.keepIn X.K (.ref f)=true)(hb:Binds X.K fd ps [])(hx:Y0 CX X E)(ha:QAs X E (e::es) wa)(hdb:(x == ("__debug__" : Str))=false:=by decide)(he:starEach (e::es) X.env=(false,eval e X.env)::starEach es X.env:=by rfl)(hpl:(backTo pos (starEach es X.env)).any (·.1)=false:=by rfl):QE .F X E (.Call (.Name x p) (e::es) [] pos) (Qh2 fD wa):=⟨Qmd G hr hg hm hk hb hx ha.h hdb he hpl⟩
theorem Qoo{CX:CXT}{k:Nat}{f:Addr}{fd:QB}{ps:List Str}{x:Str}{p pos:Pos}{e:QM}{es:List QM}{fD:DF}{n:Nat}{wr:DAr}(G:FnOk X.prog X.w X.K X.mg X.base CX k f fd ps (JK true fD))(hr:Room k X.A)(hg:Gl X x)(hm:X.mg x=some (.ref f))(hk:PySem.W.keepIn X.K (.ref f)=true)(hb:Binds X.K fd ps [])(hx:Y0 CX X E)(ha:QA n .P X E (e::es) wr)(hdb:(x == ("__debug__" : Str))=false:=by decide)(he:starEach (e::es) X.env=(false,eval e X.env)::starEach es X.env:=by rfl)(hpl:(backTo pos (starEach es X.env)).any (·.1)=false:=by rfl):QE .F X E (.Call (.Name x p) (e::es) [] pos) (Qkv fD wr):=⟨Qmc G hr hg hm hk hb hx ha.h hdb he hpl⟩
theorem QgM{CX:CXT}{k:Nat}{f:Addr}{fd:QB}{ps:List Str}{x:Str}{p pos:Pos}{e:QM}{es:List QM}{fD:DF}{n:Nat}{fr:Bool}{wr:DAr}(G:FnOk X.prog X.w X.K X.mg X.base CX k f fd ps (JK fr fD))(hr:Room k X.A)(hg:Gl X x)(hm:X.mg x=some (.ref f))(hk:PySem.W.keepIn X.K (.ref f)=true)(hb:Binds X.K fd ps [])(hx:Y0 CX X E)(ha:QA n .P X E (e::es) wr)(hdb:(x == ("__debug__" : Str))=false:=by decide)(he:starEach (e::es) X.env=(false,eval e X.env)::starEach es X.env:=by rfl)(hpl:(backTo pos (starEach es X.env)).any (·.1)=false:=by rfl):QE .F X E (.Call (.Name x p) (e::es) [] pos) (Qgg fD wr):=⟨Qjp G hr hg hm hk hb hx ha.h hdb he hpl⟩
theorem QrR{k:Nat}{f:Addr}{fd:QB}{ps:List Str}{x y:Str}{p pos pos2:Pos}{b:QM}{wb:DE}(i:Nat)(G:FnOk X.prog X.w X.K X.mg X.base CX0 k f fd ps (Qbn X.K))(hr:Room k X.A)(hg:Gl X x)(hm:X.mg x=some (.ref f))(hk:PySem.W.keepIn X.K (.ref f)=true)(hb:Binds X.K fd ps [])(h:QE .P X E b wb)(hN:X.N[i]? = some y:=by rfl)(hv:Vis X.env.scope y:=by first | exact QZ rfl | exact QU (QZ rfl) | exact QU (QU rfl))(hd:(y == ("__debug__" : Str))=false:=by decide)(hcd:(y == ("__classdict__" : Str))=false:=by decide)(h2:notStar b=true:=by rfl)(hdb:(x == ("__debug__" : Str))=false:=by decide):QE .F X E (.Call (.Name x p) [.Name y pos2,b] [] pos) (QpI i wb):=⟨QoW G hr hg hm hk hb (pv i hN hv hd hcd) h.h rfl h2 hdb⟩
theorem QrP{y:Str}{p pos pos2:Pos}(i:Nat)(hg:Gl X "len")(hm:X.mg "len" = none)(hN:X.N[i]? = some y:=by rfl)(hv:Vis X.env.scope y:=by first | exact QZ rfl | exact QU (QZ rfl) | exact QU (QU rfl))(hd:(y == ("__debug__" : Str))=false:=by decide)(hcd:(y == ("__classdict__" : Str))=false:=by decide):QE .F X E (.Call (.Name "len" p) [.Name y pos2] [] pos) (QpH i):=⟨QoT hg hm (pv i hN hv hd hcd) rfl⟩
theorem Zd(i:Nat){x:Str}{pos:Pos}(hN:X.N.Nodup)(hi:X.N[i]? = some x)(hx:Loc X.env.scope x)(hf:X.fn x=true∨X.env.scope.names.lookup x=some .local:=by first | exact .inl rfl | exact .inr rfl | assumption):QG [i] X (.Name x pos) (gN i):=⟨Qma (QcJ hN hi hx hf)⟩
structure QGs (X:Cx) (es:List QM) (is:List Nat):Prop where h:PGs X es (gNs is)
theorem Qaw  : QGs X [] []:=⟨Qjd⟩
theorem J8(i:Nat){is:List Nat}{x:Str}{pos:Pos}{es:List QM}(h:QGs X es is)(hN:X.N.Nodup)(hi:X.N[i]? = some x)(hx:Loc X.env.scope x)(hf:X.fn x=true∨X.env.scope.names.lookup x=some .local:=by first | exact .inl rfl | exact .inr rfl | assumption)(hs:(assignEach (.Name x pos::es) X.env).map (·.2)=assign (.Name x pos) X.env::(assignEach es X.env).map (·.2):=by rfl):QGs X (.Name x pos::es) (i::is):=⟨Qek (QcJ hN hi hx hf) h.h hs⟩
theorem Qav{es:List QM}{k:Nat}{pos:Pos}{is:List Nat}(hc:X.calm=true)(h:QGs X es is)(hn:(assignEach es X.env).length=is.length:=by rfl)(hst:(assignEach es X.env).findIdx? (·.1)=none:=by rfl):QG is X (.Tuple es k pos) (gTN is):=⟨QoR (Qns hc h.h hn hst) rfl⟩
theorem QaG{m:Md}{tg e:QM}{w:DE}(h:QE m X E e w):QI m X E tg e (Qvv w):=⟨Ql9 h.h⟩
theorem QaF{m:Md}{tg e:QM}{w:DE}(h:QE m X E e w):QI m X E tg e (Qvu w):=⟨QoQ h.h⟩
theorem Qba{m:Md}{tg e:QM}{w:DE}{p pos:Pos}(hg:Gl X "range")(hm:X.mg "range" = none)(h:QE .P X E e w)(hs:notStar e=true:=by rfl):QI m X E tg (.Call (.Name "range" p) [e] [] pos) (Qs3 w):=⟨Ql8 hg hm h.h hs⟩
theorem Qcq{m:Md}{e:QM}{w:DE}{p pos tpos:Pos}{elts:List QM}{x1}(hg:Gl X "enumerate")(hm:X.mg "enumerate" = none)(h:QE m X E e w)(hs:notStar e=true:=by rfl):QI m X E (.Tuple elts x1 tpos) (.Call (.Name "enumerate" p) [e] [] pos) (Qvy w):=⟨Qjl hg hm h.h hs⟩
theorem Qcp{m:Md}{e:QM}{w:DE}{p pos tpos:Pos}{elts:List QM}{x1}(hg:Gl X "enumerate")(hm:X.mg "enumerate" = none)(h:QE m X E e w)(hs:notStar e=true:=by rfl):QI m X E (.Tuple elts x1 tpos) (.Call (.Name "enumerate" p) [e] [] pos) (Qvx w):=⟨Qjk hg hm h.h hs⟩
theorem Qol{m:Md}{e e':QM}{w w':DE}{p pos tpos:Pos}{elts:List QM}{x1}(hg:Gl X "zip")(hm:X.mg "zip" = none)(h:QE m X E e w)(h':QE m X E e' w')(hs:notStar e=true:=by rfl)(hs':notStar e'=true:=by rfl):QI m X E (.Tuple elts x1 tpos) (.Call (.Name "zip" p) [e,e'] [] pos) (Qvl w w'):=⟨Ql7 hg hm h.h h'.h hs hs'⟩
theorem Yo  : QTs X E [] Qp6:=⟨QlX⟩
theorem QbO{c:QM}{t:DT}(h:QT X E c t):QTs X E [c] t:=⟨QlW h.h⟩
theorem QaH(M:List Str)(cap:List (Option Nat)){elt tg iter:QM}{ifs:List QM}{scope:Z3}{pos:Pos}{ix:List Nat}{wi:DI}{wg:DG}{wt:DT}{we:DE}(hi:QI .P X E tg iter wi)(hb:∀cl ex s3 H3 C,QG ix (blk X M scope cl ex s3 H3 C) tg wg/\QTs (blk X M scope cl ex s3 H3 C) E0 ifs wt/\QE .D (blk X M scope cl ex s3 H3 C) E0 elt we)(hc:X.calm=true:=by rfl)(ok:Qdk X.N X.env.scope M scope cap=true:=by rfl)(hf:QaO cap ix=true:=by rfl)(hs:∀x,foldedSetIterable iter X.env x=pure x:=by intro _;rfl):QE .F X E (.ListComp elt [⟨tg,iter,ifs,0⟩] scope pos) (dComp cap wi wg wt we):=⟨QoV hc ok hf hi.h (λcl ex s3 H3 C=>⟨(hb cl ex s3 H3 C).1.h,(hb cl ex s3 H3 C).2.1.h,(hb cl ex s3 H3 C).2.2.h⟩) hs⟩
theorem YL  : QSs X E [] Qs1:=⟨QlY⟩
theorem Q3{st:ZH}{w:DS}(h:QS X E st w):QSs X E [st] w:=⟨QoK h.h⟩
theorem QL{st:ZH}{rest:List ZH}{w w':DS}(h:QS X E st w)(h':QSs X E rest w'):QSs X E (st::rest) (Qvn w w'):=⟨Ql3 h.h h'.h⟩
theorem Qbp{sts:List ZH}:QSs X E sts (λ_ _=>False):=⟨Qjj⟩
theorem ZR(i:Nat){x:Str}{e:QM}{pos pos':Pos}{we:DE}(he:QE .D X E e we)(hN:X.N.Nodup)(hi:X.N[i]? = some x:=by rfl)(hx:Loc X.env.scope x:=by first | exact QZ rfl | exact QU rfl)(hs:swapsWith e (some (.Name x pos')) pos.line X.env=pure false:=by rfl)(hf:X.fn x=true∨X.env.scope.names.lookup x=some .local:=by first | exact .inl rfl | exact .inr rfl | assumption):QS X E (.Assign [.Name x pos'] e pos) (QtA i we):=⟨QfY (Qcd hN hi hx he.h hs hf)⟩
theorem Qag(i:Nat){x:Str}{e:QM}{pos pos':Pos}{we:DE}(he:QE .F X E e we)(hN:X.N.Nodup)(hi:X.N[i]? = some x:=by rfl)(hx:Loc X.env.scope x:=by first | exact QZ rfl | exact QU rfl)(hs:swapsWith e (some (.Name x pos')) pos.line X.env=pure false:=by rfl)(hf:X.fn x=true∨X.env.scope.names.lookup x=some .local:=by first | exact .inl rfl | exact .inr rfl | assumption):QS X E (.Assign [.Name x pos'] e pos) (QpE i we):=⟨QgR (Qcd hN hi hx he.h hs hf)⟩
theorem Qoh(i:Nat){x:Str}{e:QM}{pos pos':Pos}{we:DE}(he:QE .F X E e we)(hN:X.N.Nodup)(hi:X.N[i]? = some x:=by rfl)(hx:Loc X.env.scope x:=by first | exact QZ rfl | exact QU rfl)(hs:swapsWith e (some (.Name x pos')) pos.line X.env=pure false:=by rfl)(hf:X.fn x=true∨X.env.scope.names.lookup x=some .local:=by first | exact .inl rfl | exact .inr rfl | assumption):QS X E (.Assign [.Name x pos'] e pos) (Qs2 i we):=⟨QlZ (Qcd hN hi hx he.h hs hf)⟩
theorem YC{e:QM}{pos:Pos}{we:DE}(h:QE .D X E e we):QS X E (.Return (some e) pos) (Qvo we):=⟨QoH h.h⟩
theorem Y3{e:QM}{pos:Pos}{we:DE}(h:QE .F X E e we):QS X E (.Return (some e) pos) (Qs4 we):=⟨Ql1 h.h⟩
theorem Qeh(i:Nat){x:Str}{pos pos2:Pos}(hN:X.N[i]? = some x:=by rfl)(hv:Vis X.env.scope x:=by first | exact QZ rfl | exact QU (QZ rfl) | exact QU (QU rfl))(hd:(x == ("__debug__" : Str))=false:=by decide)(hcd:(x == ("__classdict__" : Str))=false:=by decide):QS X E (.Return (some (.Name x pos)) pos2) (QpF i):=⟨Ql0 (pv i hN hv hd hcd)⟩
theorem QcH{c:QM}{a b:List ZH}{pos:Pos}{t:DT}{w w':DS}(hc:QT X E c t)(ha:QSs X E a w)(hb:QSs X E b w'):QS X E (.If c a b pos) (dIf t w w'):=⟨Qr2 hc.h ha.h hb.h⟩
theorem Qi9{y:Str}{e:QM}{we:DE}{apos cpos pos npos:Pos}(i:Nat)(he:QE .D X E e we)(hN:X.N[i]? = some y:=by rfl)(hv:Vis X.env.scope y:=by first | exact QZ rfl | exact QU (QZ rfl) | exact QU (QU rfl))(hd:(y == ("__debug__" : Str))=false:=by decide)(hcd:(y == ("__classdict__" : Str))=false:=by decide)(hst:notStar e=true:=by rfl)(hbase:attributeBase (.Name y npos) "append" X.env (eval (.Name y npos) X.env)=eval (.Name y npos) X.env:=by rfl)(hfew:((backTo cpos (starEach [e] X.env)).all (λx => !x.1)&&(backToKw cpos (keywordEach [] X.env)).all (λx=>x.1.isSome)&&decide ([e].length+([]:List Qhv).length+(if([]:List Qhv).isEmpty then 0 else 1)<30))=true:=by rfl)(hline:(apos.endLine == cpos.line)=true:=by rfl)(hsw:swapsWith (.Call (.Attribute (.Name y npos) "append" apos) [e] [] cpos) none pos.line X.env=pure false:=by rfl):QS X E (.Expr (.Call (.Attribute (.Name y npos) "append" apos) [e] [] cpos) pos) (QuS i we):=⟨QoP (QfX (QrY PySem.F.plainAttrs_list PySem.F.slot_list_append PySem.F.type_list_append Qff (pv i hN hv hd hcd) (QfJ he.h JV hst) hbase hfew hline (Z5 hst) rfl) hsw)⟩
theorem QrM{y:Str}{e:QM}{we:DE}{apos cpos pos npos:Pos}(i:Nat)(he:QE .P X E e we)(hN:X.N[i]? = some y:=by rfl)(hv:Vis X.env.scope y:=by first | exact QZ rfl | exact QU (QZ rfl) | exact QU (QU rfl))(hd:(y == ("__debug__" : Str))=false:=by decide)(hcd:(y == ("__classdict__" : Str))=false:=by decide)(hst:notStar e=true:=by rfl)(hbase:attributeBase (.Name y npos) "extend" X.env (eval (.Name y npos) X.env)=eval (.Name y npos) X.env:=by rfl)(hfew:((backTo cpos (starEach [e] X.env)).all (λx => !x.1)&&(backToKw cpos (keywordEach [] X.env)).all (λx=>x.1.isSome)&&decide ([e].length+([]:List Qhv).length+(if([]:List Qhv).isEmpty then 0 else 1)<30))=true:=by rfl)(hline:(apos.endLine == cpos.line)=true:=by rfl)(hsw:swapsWith (.Call (.Attribute (.Name y npos) "extend" apos) [e] [] cpos) none pos.line X.env=pure false:=by rfl):QS X E (.Expr (.Call (.Attribute (.Name y npos) "extend" apos) [e] [] cpos) pos) (QuR i we):=⟨QoN (QfX (QrY PySem.F.plainAttrs_list PySem.F.slot_list_extend PySem.F.type_list_extend QjP (pv i hN hv hd hcd) (QfJ he.h JV hst) hbase hfew hline (Z5 hst) rfl) hsw)⟩
theorem QrL{y:Str}{e k:QM}{we wk:DE}{pos spos npos:Pos}(i:Nat)(he:QE .D X E e we)(hk:QE .P X E k wk)(hN:X.N[i]? = some y:=by rfl)(hv:Vis X.env.scope y:=by first | exact QZ rfl | exact QU (QZ rfl) | exact QU (QU rfl))(hd:(y == ("__debug__" : Str))=false:=by decide)(hcd:(y == ("__classdict__" : Str))=false:=by decide) (ha:∀v,assign (.Subscript (.Name y npos) k spos) X.env v=(do
   let ov <- holding [v] (eval (.Name y npos) X.env)
   let iv <- holding [v,ov] (eval k X.env)
   standAt spos
   holding [v,ov,iv] (setItem ov iv v)
   release [v,ov,iv] []):=by intro _;rfl) (hs:swapsWithSole [.Subscript (.Name y npos) k spos] e pos.line X.env=pure false:=by rfl) (hw:swappedStores [.Subscript (.Name y npos) k spos] e X.env=pure none:=by rfl) (h1:(assignEach [.Subscript (.Name y npos) k spos] X.env).map (·.2)=[assign (.Subscript (.Name y npos) k spos) X.env]:=by rfl):QS X E (.Assign [.Subscript (.Name y npos) k spos] e pos) (Qvp i wk we):=⟨QoI (Qnp he.h (Qnt (pv i hN hv hd hcd) hk.h Qee ha) hs hw h1)⟩
theorem Qoi{y:Str}{e k:QM}{we wk:DE}{op:Qd3}{ti:TIp}{rD:Qa->Qa->(Qa->Prop)->Prop}{pos tpos npos:Pos}(i:Nat)(ho:PIp X op ti)(hd:QpT ti rD)(hk:QE .P X E k wk)(he:QE .P X E e we)(hN:X.N[i]? = some y:=by rfl)(hv:Vis X.env.scope y:=by first | exact QZ rfl | exact QU (QZ rfl) | exact QU (QU rfl))(hdd:(y == ("__debug__" : Str))=false:=by decide)(hcd:(y == ("__classdict__" : Str))=false:=by decide)(ha:∀ov iv new,augStore k ov iv new=(do holding [new,ov,iv] (setItem ov iv new);release [new,ov,iv] [];pure .next):=by intros;rfl):QS X E (.AugAssign (.Subscript (.Name y npos) k tpos) op e pos) (QpJ i rD wk we):=⟨Ql4 hd (Qos (pv i hN hv hdd hcd) hk.h QmL he.h (PIp.len ho) Qee ha)⟩
theorem QrN{st:ZH}{w:DS}(is:List Nat)(h:QS X E st w):QS X E st (λD δ=>w D (Qp5 is δ)):=⟨QoO is h.h⟩
theorem YD{tg iter:QM}{body:List ZH}{pos:Pos}{ix:List Nat}{wi:DI}{wg:DG}{wb:DS}(hp:Qd2 (model X.prog X.w) X.A X.env X.xe)(hc:X.calm=true)(hi:QI .D X E tg iter wi)(hg:QG ix X tg wg)(hb:QSs X E body wb)(hs:∀x,foldedSetIterable iter X.env x=pure x:=by intro _;rfl):QS X E (.For tg iter body [] pos) (dFor wi wg wb):=⟨QoM hp hc hi.h hg.h hb.h hs⟩
theorem QbP{e:QM}{we:DE}{pos:Pos}(he:QE .P X E e we)(hs:swapsWith e none pos.line X.env=pure false:=by rfl):QS X E (.Expr e pos) (Qs7 we):=⟨Ql2 (QfX he.h hs)⟩
end
section
variable{P:QF}{w:Q9}{K:PySem.W.Frag}{mg:Str->Option Value}{base:JU}
theorem okQ{x qual:Str}{st:ZH}{f:Addr}{fd:QB}{N ps:List Str}{k:Nat}{fD:DF}(fr:Bool)(F:Fun K x qual st f fd)(S:Jd N ps (Qo st))(len:∀args R EX,fD args R EX->args.length=ps.length)
  (hbody:∀(cdv:Value)(A:Q6)(outer:List Env)(s:Shared)(H:Hp)(E:XK),Room k (A.deeper (envOfC qual (Qo st) s.heap.objs.size f cdv)) ->
   ∃wd,QSs (Qim CX0 P w K mg base N qual (Qo st) f cdv A outer s H E).nox E0 (Ja st) wd/\∀args R EX,fD args R EX->wd (QmQ fr R XF) (stD N args)):FnOk P w K mg base CX0 (k+1) f fd ps (JK fr fD):=
 okD fr F S len λcdv A outer s H E hr=>let ⟨wd,h,q⟩:=hbody cdv A outer s H E hr;⟨wd,h.h,q⟩
end
section
variable{X:Cx}{E:XK}
theorem Qgf{A:Addr->Prop}{H:Hp}:∀{xs:List V}{ds:List Qa},DAs A H xs ds->∀(i:Nat)(x:V),xs[i]? = some x->∃d,ds[i]? = some d/\DA A H x d
 |_,_,.nil,i,x,h=>nomatch h
 |_,_,.cons a b,0,x,h=>by cases h;exact⟨_,rfl,a⟩
 |_,_,.cons a b,i+1,x,h=>Qgf b i x h
theorem Qhf{A:Addr->Prop}{H:Hp}:∀{xs:List V}{ds:List Qa},DAs A H xs ds->xs.length=ds.length
 |_,_,.nil=>rfl
 |_,_,.cons _ b=>by rw[QK,QK,Qhf b]
end
end Dl
namespace L2
open PySem.Calls _root_.Rd _root_.Rk Dl
def spT(P:Addr)(q:Str)(sp:Sp):Sp:=λvs H Q E=>TH P q H/\sp vs H Q E
section
variable{X:Cx}{CX:CXT}{k:Nat}{f tP:Addr}{fd:QB}{ps:List Str}{sp:Sp}{dvs:List V}{ds:List Value}{E:XK}{x tq:Str}{p pos:Pos}{e:QM}{es:List QM}{t:TA}
theorem QlU(hT:TH tP tq X.H₀)(F:FnOk X.prog X.w X.K X.mg X.base CX k f fd ps (spT tP tq sp))(hr:Room k X.A)(hg:Gl X x)(hm:X.mg x=some (.ref f))(hk:PySem.W.keepIn X.K (.ref f)=true)(hb:Binds X.K fd ps ds)(hd:Vals dvs ds)(hx:Y0 CX X E)
  (ha:PA X (e::es) t)(hdb:(x == ("__debug__" : Str))=false:=by decide)(he:starEach (e::es) X.env=(false,eval e X.env)::starEach es X.env:=by rfl)(hpl:(backTo pos (starEach es X.env)).any (·.1)=false:=by rfl) :
  PE X (.Call (.Name x p) (e::es) [] pos) (QhE sp dvs E t):=by
 intro pins s σ H Q I h;refine YG (Qf9 I hg hm ?_ hdb);refine PySem.W.callWith_K (h₀:=X.base) I.ok.mod.kin hk (thn (ha pos pins s σ H _ I h) λus s1 ⟨vs,H1,I1,r,q⟩=>⟨I1.kIn,?_⟩) he hpl;exact Qni F hr hb hd hx I1 r ⟨I1.th hT,q⟩
end
section
variable{P:QF}{w:Q9}{K:PySem.W.Frag}{mg:Str->Option Value}{base:JU}
theorem Fun.okT{x qual:Str}{st:ZH}{f c:Addr}{fd:QB}{N ps:List Str}{k:Nat}{sp:Sp}(F:Fun K x qual st f fd)(hc:fd.code=.ref c)(S:Jd N ps (Qo st))(len:∀vs H Q E,sp vs H Q E->vs.length=ps.length)
  (hbody:∀(A:Q6)(outer:List Env)(s:Shared)(H:Hp)(vs:List V)(Q:VK)(E:XK),Room k (A.deeper (envOfC qual (Qo st) s.heap.objs.size f (.ref c)))->sp vs H Q E ->
   ∃t,PSs (Qim CX0 P w K mg base N qual (Qo st) f (.ref c) A outer s H E).nox (Ja st) t/\t { nx:=λ_ H'=>Q .non H',rt:=Q } (start N vs) H):FnOk P w K mg base CX0 (k+1) f fd ps sp:=by
 obtain⟨oc,od,kV,doc,pm,an,cdv,ct,osl,rfl,lk,hcd⟩:=F.ex;obtain rfl:cdv=.ref c:=hc;refine QsR lk hcd S len λA outer s H vs Q E hr hsp=>?_
 obtain⟨t,h,q⟩:=hbody A outer s H vs Q E hr hsp;exact⟨t,h.nox,q⟩
end
end L2
namespace Dl
open PySem.Calls L2 _root_.Rd Rk
section
variable{P:QF}{w:Q9}{K:PySem.W.Frag}{mg:Str->Option Value}{base:JU}
theorem QvT{x qual:Str}{st:ZH}{f c tP:Addr}{tq:Str}{fd:QB}{N ps:List Str}{k:Nat}{fD:DF}(fr:Bool)(F:Fun K x qual st f fd)(hc:fd.code=.ref c)(S:Jd N ps (Qo st))(len:∀args R EX,fD args R EX->args.length=ps.length)
  (hbody:∀(A:Q6)(outer:List Env)(s:Shared)(H:Hp)(E:XK),Room k (A.deeper (envOfC qual (Qo st) s.heap.objs.size f (.ref c)))->TH tP tq H ->
   ∃wd,QSs (Qim CX0 P w K mg base N qual (Qo st) f (.ref c) A outer s H E).nox E0 (Ja st) wd/\∀args R EX,fD args R EX->wd (QmQ fr R XF) (stD N args)):FnOk P w K mg base CX0 (k+1) f fd ps (spT tP tq (JK fr fD)):=by
 refine F.okT hc S (λvs H Q E h=>?_) λA outer s H vs Q E hr h=>?_
 ·obtain⟨_,A,pt,args,R,EX,_,_,q,h,_⟩:=h;rw[q.length];exact len _ _ _ h
 ·obtain⟨hT,A',pt,args,R,EX,dm,hpt,q,h,k,_⟩:=h;obtain⟨wd,hp,hw⟩:=hbody A outer s H E hr hT;exact⟨_,hp.h,⟨H,A',pt⟩,_,_,Qe3 dm hpt q,hw args R EX h,Qkl (Ex:=E) (EX:=EX) k Qmf⟩
end
section
variable{X:Cx}{E:XK}
theorem QfW{CX:CXT}{k:Nat}{f tP:Addr}{tq:Str}{fd:QB}{ps:List Str}{x:Str}{p pos:Pos}{e:QM}{es:List QM}{fD:DF}{wa:DSl}(hT:TH tP tq X.H₀)(G:FnOk X.prog X.w X.K X.mg X.base CX k f fd ps (spT tP tq (JK false fD)))(hr:Room k X.A)(hg:Gl X x)(hm:X.mg x=some (.ref f))(hk:PySem.W.keepIn X.K (.ref f)=true)(hb:Binds X.K fd ps [])(hx:Y0 CX X E)
  (ha:QAs X E (e::es) wa)(hdb:(x == ("__debug__" : Str))=false:=by decide)(he:starEach (e::es) X.env=(false,eval e X.env)::starEach es X.env:=by rfl)(hpl:(backTo pos (starEach es X.env)).any (·.1)=false:=by rfl):QE .D X E (.Call (.Name x p) (e::es) [] pos) (Qh2 fD wa):=
 ⟨PE.imp (QlU hT G hr hg hm hk hb .nil hx ha.h hdb he hpl) (Qc5 λh _=>h)⟩
@[irreducible] def QbV(fD:DF)(bd:Qa):Qa->(Qa->Prop)->Prop
 |.list ds,Q=>∃val:Nat->Int,(∀(i:Nat) d,ds[i]? = some d->fD [.v bd,.v d] (λr=>r=.int (val i)) XF)/\(ds=[]->Q .none)/\∀d,ds[bstI val (ds.length - 1)]? = some d->Q d
 |_,_=>False
theorem QjR{fD:DF}{bd:Qa}{ds:List Qa}{Q:Qa->Prop}(val:Nat->Int)(h1:∀(i:Nat) d,ds[i]? = some d->fD [.v bd,.v d] (λr=>r=.int (val i)) XF)(h0:ds=[]->Q .none)(h:∀d,ds[bstI val (ds.length - 1)]? = some d->Q d):QbV fD bd (.list ds) Q:=by
 unfold QbV;exact⟨val,h1,h0,h⟩
def vAt(ib:Nat)(δ:Sts)(k:Qa->Prop):Prop:=match δ[ib]? with
 |some (.v bd)=>k bd
 |_=>False
def QpG(fD:DF)(ib:Nat)(w:DE):DE:=λδ Q EX=>w δ (λd=>vAt ib δ λbd=>QbV fD bd d Q) EX
theorem Qlj{ib:Nat}{δ:Sts}{k:Qa->Prop}(h:vAt ib δ k):∃bd,δ[ib]? = some (.v bd)/\k bd:=by
 unfold vAt at h;split at h
 ·rename_i bd e
  exact⟨bd,e,h⟩
 ·exact h.elim
theorem QlJ{k:Nat}{fw P c cb:Addr}{fdw:QB}{ps2:List Str}{fr:Bool}{fD:DF}{e:QM}{w:DE}{q bn pn wn:Str}{params:Qd9}{lsc:Z3}{p lp kp cp kp2 pos p1 p2 p3 bp:Pos}(ib:Nat)
  (G:FnOk X.prog X.w X.K X.mg X.base CX0 k fw fdw ps2 (JK fr fD))(hr:Room (k+2) X.A)(hg:Gl X "min")(hm:X.mg "min" = none)(hb:Binds X.K fdw ps2 [])(hmw:X.mg wn=some (.ref fw))(hkw:PySem.W.keepIn X.K (.ref fw)=true)
  (hT:TH P q X.H₀)(hC:PySem.W.CodeHd X.base c P)(hB:Qa6 X.base X.mg)(hcode:X.env.code=.ref c)(hcb:X.env.cells.lookup bn=some cb)(hcl:closureFor lsc X.env=pure [(bn,cb)])(h:QE .P X E e w)(hq:q=X.env.qual ++ "<lambda>")(hdef:defaultsOf params X.env=([],[]))
  (hib:X.N[ib]? = some bn)(hkb:X.env.scope.names.lookup bn=some .cell)
  (sk:lsc.kind=.function)(sco:lsc.isCoroutine=false)(sge:lsc.isGenerator=false)(hcell:∀y∈lsc.names,y.2≠.cell)(hpn:lsc.names.lookup pn=some .local)(hbn:lsc.names.lookup bn=some .free)(hfr:∀y,lsc.names.lookup y=some .free->y=bn)
  (hwn:lsc.names.lookup wn=some .globalImplicit)(dp:(pn == ("__debug__" : Str))=false)(db:(bn == ("__debug__" : Str))=false)(dw:(wn == ("__debug__" : Str))=false)(dp2:(pn == ("__classdict__" : Str))=false)(db2:(bn == ("__classdict__" : Str))=false)
  (hbind:∀(pm ctv:Value)(c':Addr)(u:Value),bindArgs (PySem.W.kla_fn "<lambda>" q params (.Call (.Name wn p1) [.Name bn p2,.Name pn p3] [] bp) lsc [(bn,cb)] pm (.ref c') ctv) ⟨[u],[]⟩=pure [(pn,u)])
  (hc:X.calm=true)(hs:notStar e=true) :
  QE .D X E (.Call (.Name "min" p) [e] [⟨some "key",.Lambda params (.Call (.Name wn p1) [.Name bn p2,.Name pn p3] [] bp) lsc lp,kp⟩,⟨some "default",.Constant .none 0 cp,kp2⟩] pos) (QpG fD ib w):=by
 refine⟨PE.imp (Qjg (E0:=λ_ _ _=>False) G hr hg hm hb hmw hkw hc hT hq hC hcode hB hcl hdef hib hkb hcb sk sco sge hcell hpn hbn hfr hwn dp db dw dp2 db2 hbind h.h (Z5 hs)) λσ H Q ⟨F,δ,R,EX,rel,hw,k,o⟩=>?_⟩;refine⟨F,δ,_,EX,rel,hw,λd hd v H1 rel1 kp1 vk=>?_,o⟩;obtain⟨bd,eb,hd⟩:=Qlj hd;have hd:QbV fD bd d _:=hd;unfold QbV at hd;split at hd
 ·rename_i ds
  obtain⟨val,hf,hN,hQ⟩:=hd;obtain⟨l,xs,rfl,e,q⟩:=DP.list vk;have ln:=Qhf q;have lb:ib < σ.length:=by rw[rel1.len];exact(Qr.mp eb).1
  obtain⟨bv,hbv,dbv⟩:=rel1.sl ib _ _ (Qg lb) eb;refine⟨l,xs,val,bv,rfl,e,by rw[Qg lb,hbv],λS i x hS hx H2 kb=>?_,λe0 H' sm=>?_,λx hx H' sm=>?_⟩
  ·obtain⟨d,hd,da⟩:=Qgf q i x hx;have mv:∀a o,¬Av F σ δ a->H1 a=some o->H2 a=some o:=λa o na ha=>kb a o (λz=>by rw[z,hS] at ha;cases ha) ha
   refine⟨Av F σ δ,λ_=>False,[.v bd,.v d],_,XF,λa ha=>?_,λp hp=>hp.elim,.cons ?_ (.cons ?_ .nil),hf i d hd,λd' e' v H' kq da' _=>?_,λC hC=>hC.elim⟩
   ·obtain⟨ys,hy⟩:=rel1.isl ha;exact⟨ys,kb a _ (λz=>by rw[z,hS] at hy;cases hy) hy⟩
   ·exact dbv.mv mv λa ha=>.inl ha
   ·exact da.mv mv λa ha=>.inl ha
   ·subst e';cases da';exact⟨rfl,λb o hb=>kq.1 b o (λz=>z) hb⟩
  ·exact k .none (hN (by rw[e0] at ln;exact List.eq_nil_of_length_eq_zero ln.symm)) .non H' (rel1.same sm) (kp1.trans (Kp.same rel1 sm)) .non
  ·rw[ln] at hx;obtain⟨d,hd,da⟩:=Qgf q _ x hx;exact k d (hQ d hd) x H' (rel1.same sm) (kp1.trans (Kp.same rel1 sm)) (da.same sm)
 ·exact hd.elim
end
end Dl
namespace L2
open PySem.Calls _root_.Rd _root_.Rk Dl
theorem Qj0{P:QF}{w:Q9}{K:PySem.W.Frag}{mg mb:Str->Option Value}{CX:CXT}{k:Nat}{fa a tc tP:Addr}{tq:Str}{fd:QB}{x:Str}{sp:Sp}{s₁:Shared}{vs:List Value}{ns:List Int}
  (hT:PySem.W.CodeHd s₁.heap tc tP)(hP:s₁.heap.get? tP=some (PySem.W.tabObj #[]))(hno:PySem.W.noTabs K=true)(hbm:Qa6 s₁.heap mg)
  (KX:K.In s₁.heap)(hns:s₁.heap.Ns mainGlobals mg)(hb:s₁.heap.Ns builtinsNs mb)(hbb:∀x:Str,x ≠ "__name__" -> mb x=bootBuiltins x)(hlim:s₁.heap.NoLimit)(hg:s₁.gens=#[])
  (ha:s₁.heap.get? a=some { cls:=.type "list",data:=.seq vs.toArray })(hi:YH vs ns)(hl:ns.length<=sizeLine)(hr:Room k callerA)
  (F:∀base:JU,K.In base->base.Ns mainGlobals mg->PySem.W.CodeHd base tc tP->Qa6 base mg->FnOk P w K mg base CX k fa fd [x] (spT tP tq sp))(hbind:∀(s:Shared)(u:Value),Qlf s fd ⟨[u],[]⟩ [(x,u)])
  (hsp:∀H:Hp,SqL K H a (ns.map V.int)->sp [.ref a] H (λv _=>v=.bl true) λ_ _ _=>False)
  (hCX:∀H e s',CX [] H s₁ (λ_ _ _=>False) e s'->False) :
  codeAny (model P w) callerA (.call (.ref fa) ⟨[.ref a],[]⟩) (λr s'=>r=.ok (.ret (.bool true))/\OldK s₁.heap s'.heap/\s'.os=s₁.os/\Qdg s'.gens) s₁:=by
 have rv:=QeV hi;have lenV:=hi.length;have naP:a≠tP:=λz=>by rw[z,hP] at ha;cases ha
 have core:∀H:Hp,(∀b,H b=none∨(∃o xs,H b=some (.frz o (.lst xs)))∨b=tP)->H tP=some (.tbl #[.str tq 0])->SqL K H a (ns.map V.int)->HOk P w H s₁.heap->(∀b,H b≠none->b=a∨b=tP)->(H a≠none->K.lookup a=none) ->
   codeAny (model P w) callerA (.call (.ref fa) ⟨[.ref a],[]⟩) (λr s'=>r=.ok (.ret (.bool true))/\OldK s₁.heap s'.heap/\s'.os=s₁.os/\Qdg s'.gens) s₁:=by
  intro H hO hTP hS hok hA hK;have base_of:∀{b:Addr}{o:Obj},s₁.heap.get? b=some o->H b=none->(Qkc s₁.heap H).get? b=some o:=λe n=>QmK e n
  have free_of:∀{b:Addr}{o:Obj},s₁.heap.get? b=some o->o≠PySem.W.tabObj #[]->(∀n,o≠{ cls:=.type "list",data:=.seq vs.toArray n })->H b=none:=λ{b o} e d1 d2=>by
   cases q:H b with
   |none=>rfl
   |some u=>
    rcases hA b (by rw[q];simp) with e' | e'
    ·subst e';rw[ha] at e;cases e;exact absurd rfl (d2 _)
    ·subst e';rw[hP] at e;cases e;exact absurd rfl d1
  have noA:∀{b:Addr}{o:Obj}{es:Array DictEntry}{ep:Nat},s₁.heap.get? b=some o->o.data=.dict es ep->H b=none:=λ{b o es ep} e d=>free_of e (λz=>by rw[z] at d;cases d) λn z=>by rw[z] at d;cases d
  have nsK:∀{b:Addr}{m:Str->Option Value},s₁.heap.Ns b m->(Qkc s₁.heap H).Ns b m:=λ{b m} ⟨o,es,ep,e,d,r⟩=>⟨o,es,ep,base_of e (noA e d),d,r⟩
  have hKb:K.In (Qkc s₁.heap H):=λb o e=>base_of (KX b o e) (by
   cases q:H b with
   |none=>rfl
   |some u=>
    rcases hA b (by rw[q];simp) with e' | e'
    ·subst e';rw[hK (by rw[q];simp)] at e;cases e
    ·subst e';have e2:=KX _ _ e;rw[hP] at e2;cases e2;have h2:=Q7.mp hno (b,_) (PySem.W.mem_of_lookupK e);exact absurd (show false=true from h2) Qj)
  have hM:Mod K mg (Qkc s₁.heap H):=⟨hKb,nsK hns,⟨mb,nsK hb,hbb⟩,let ⟨mc,h1,h2⟩:=hlim;⟨mc,nsK h1,h2⟩⟩;have hC:PySem.W.CodeHd (Qkc s₁.heap H) tc tP:=by
   obtain⟨o,us,file,tf,flags,tg,inF,text,tt,e1,e2,r⟩:=id hT;exact⟨o,us,file,tf,flags,tg,inF,text,tt,base_of e1 (free_of e1 (λz=>by rw[z] at e2;cases e2) λn z=>by rw[z] at e2;injection e2 with e3;exact absurd e3 (by decide)),e2,r⟩
  have hB:Qa6 (Qkc s₁.heap H) mg:=by
   obtain⟨bm,ob,b1,b2,b3,b4,b5,b6⟩:=id hbm;exact⟨bm,ob,b1,b2,base_of b3 (free_of b3 (λz=>by rw[z] at b4;cases b4) λn z=>by rw[z] at b4;injection b4 with b7;exact absurd b7 (by decide)),b4,b5,b6⟩
  have e0:Env0 P w K mg (Qkc s₁.heap H) callerA [] s₁ H:=⟨rfl,hM,λb o e=>Qpb e,Nat.le_of_eq (Qkb _ _),trivial,λb hb=>absurd (show b∈([]:List Addr) from hb) (by simp),hok,.of_eq hg⟩;refine Qch ((F _ hKb (nsK hns) hC hB).run callerA [] s₁ H ⟨[.ref a],[]⟩ [.ref a] [.ref a] _ _ hr e0 (hbind s₁ (.ref a)) (.cons rfl .nil) ⟨⟨0,#[],by rw[hTP];rfl⟩,hsp H hS⟩) λr s' h=>?_
  cases r with
  |error e=>exact(hCX H e s' h).elim
  |ok fl=>
   cases fl with
   |next=>exact J6 h
   |brk=>exact J6 h
   |cont=>exact J6 h
   |ret u=>
    obtain⟨v,H',os,bare,un,hok',r',q⟩:=h;have q':v=.bl true:=q;subst q';obtain rfl:u=Yl true:=r';obtain⟨more,eT⟩:=un.tbls tP _ hTP;obtain⟨qs,gP,_⟩:=hok' tP _ eT;have keep:∀b o,b≠tP->s₁.heap.get? b=some o->s'.heap.get? b=some o:=λb o nb e=>by
     cases q:H b with
     |none=>exact un.keep b o e q (by intro z;exact absurd (show b∈([]:List Addr) from z) (by simp)) (by simp)
     |some u=>
      rcases hO b with z | ⟨ob,xs,z⟩ | z
      ·rw[q] at z;cases z
      ·have z2:=un.frzs b ob _ z;obtain⟨e1,_⟩:=hok b _ z;obtain⟨e2,_⟩:=hok' b _ z2;rw[e] at e1;cases e1;exact e2
      ·exact absurd z nb
    refine⟨rfl,⟨λb o e=>?_,λb o e=>?_⟩,os,bare⟩
    ·by_cases z:b=tP
     ·subst z;rw[hP] at e;cases e;exact .inr (.inl ⟨(hT.tab hP).isCodeTable,rfl,#[],qs,rfl,by rw[Array.empty_append];exact gP⟩)
     ·exact .inl (keep b o z e)
    ·by_cases z:b=tP
     ·subst z;exact⟨_,gP⟩
     ·exact⟨o,keep b o z e⟩
 have tblOk:∀H:Hp,ObjOk P w H s₁.heap tP (.tbl #[.str tq 0]):=λH=>⟨#[],hP,trivial,λpos v e=>nomatch e⟩
 cases hk:K.lookup a with
 |some o=>
  have e:=KX a o hk;rw[ha] at e;cases e;refine core (λb=>if b=tP then some (.tbl #[.str tq 0]) else none) (λb=>?_) (if_pos rfl) (.inr ⟨_,vs.toArray,_,hk,rfl,rfl,rfl,by rw[Qm,lenV];exact hl,by simpa using rv⟩) (λb u z=>?_) (λb z=>?_) λz=>absurd (if_neg naP) z
  ·by_cases hb:b=tP
   ·exact .inr (.inr hb)
   ·exact .inl (if_neg hb)
  ·by_cases hb:b=tP
   ·have z':=(if_pos hb).symm.trans z;cases z';subst hb;exact tblOk _
   ·have z':=(if_neg hb).symm.trans z;cases z'
  ·by_cases hb:b=tP
   ·exact .inr hb
   ·exact absurd (if_neg hb) z
 |none=>
  refine core (λb=>if b=tP then some (.tbl #[.str tq 0]) else if b=a then some (.frz { cls:=.type "list",data:=.seq vs.toArray } (.lst (ns.map V.int))) else none) (λb=>?_) (if_pos rfl) (.inl (.inr ⟨{ cls:=.type "list",data:=.seq vs.toArray },(if_neg naP).trans (if_pos rfl)⟩)) (λb u z=>?_) (λb z=>?_) λ_=>hk
  ·by_cases hb:b=tP
   ·exact .inr (.inr hb)
   ·by_cases hb2:b=a
    ·exact .inr (.inl ⟨_,_,(if_neg hb).trans (if_pos hb2)⟩)
    ·exact .inl ((if_neg hb).trans (if_neg hb2))
  ·by_cases hb:b=tP
   ·have z':=(if_pos hb).symm.trans z;cases z';subst hb;exact tblOk _
   ·by_cases hb2:b=a
    ·have z':=((if_neg hb).trans (if_pos hb2)).symm.trans z;cases z';subst hb2;exact⟨ha,by rw[Qe];exact hl,vs,_,rv,ha⟩
    ·have z':=((if_neg hb).trans (if_neg hb2)).symm.trans z;cases z'
  ·by_cases hb:b=tP
   ·exact .inr hb
   ·by_cases hb2:b=a
    ·exact .inl hb2
    ·exact absurd ((if_neg hb).trans (if_neg hb2)) z
theorem Qli{tc tP:Addr}{tq:Str}{l:PySem.W.OpenLaw}{n k:Nat}{q:QF}{loose:List Str}{XP:(Str->Option Value)->JU->Prop}{YP:Q9->JU->Prop}{d:DefRec}{K:Params->PySem.W.Frag}{CX:Q9->CXT}{sp:Q9->Sp}{x:Str}
  (hn:l.most=some n)(hn2:n<=sizeLine)(hdf:d.params.defaults=[])(hr:Room k callerA)
  (hY:∀(w:Q9)(h:JU),YP w h->(K w.params).In h)
  (F:∀(w:Q9)(mg:Str->Option Value)(fa:Addr)(h:JU),(K w.params).In h->h.Ns mainGlobals mg->mg d.name=some (.ref fa) ->
   ∃fd:QB,(∀(s:Shared)(u:Value),Qlf s fd ⟨[u],[]⟩ [(x,u)]) /\
    ∀base:JU,(K w.params).In base->base.Ns mainGlobals mg->PySem.W.CodeHd base tc tP->Qa6 base mg->FnOk l.prog w (K w.params) mg base (CX w) k fa fd [x] (spT tP tq (sp w)))
  (hno:∀w:Q9,PySem.W.noTabs (K w.params)=true) (hTb:∀(w:Q9)(h:JU),YP w h->h.get? tP=some (PySem.W.tabObj #[])) (hCd:∀w:Q9,PySem.W.codeHdIn (K w.params) tc tP=true)
  (hsp:∀(w:Q9)(H:Hp)(a:Addr)(ns:List Int),ns.length<=n->SqL (K w.params) H a (ns.map V.int)->sp w [.ref a] H (λv _=>v=.bl true) λ_ _ _=>False)
  (hCX:∀(w:Q9)(H:Hp)(s:Shared)(e:Value)(s':Shared),CX w [] H s (λ_ _ _=>False) e s'->False) :
  PySem.W.WalkO q loose XP YP l.row.toRowW d [] (λf vs=>PySem.call f vs):=by
 refine Att.Qgn hn hdf λw s₀ s₁ mg mb fa o pm cd doc a vs ns G Y ho hd hcd hmg hobj hints hlen hg=>?_
 have KX:=hY w _ Y;obtain⟨fd,hb,hF⟩:=F w mg fa _ KX G.T.g hmg;exact Qj0 (PySem.W.codeHd_of_K KX (hCd w)) (hTb w _ Y) (hno w) G.T.bmain KX G.T.g G.T.b G.T.builtins G.T.nolimit hg hobj hints (QV hlen hn2) hr hF hb (λH hS=>hsp w H a ns hlen hS) λH e s'=>hCX w H s₁ e s'
end L2
namespace Dl
open PySem.Calls L2 _root_.Rd Rk
section
variable{P:QF}{w:Q9}{K:PySem.W.Frag}{mg:Str->Option Value}{base:JU}
theorem Qss{tP:Addr}{tq:Str}{x qual:Str}{st:ZH}{f:Addr}{fd:QB}{N:List Str}{p:Str}{k:Nat}(F:Fun K x qual st f fd)(S:Jd N [p] (Qo st))
  (hbody:∀(cdv:Value)(A:Q6)(outer:List Env)(s:Shared)(H:Hp)(E:XK),Room k (A.deeper (envOfC qual (Qo st) s.heap.objs.size f cdv))->TH tP tq H ->
   ∃wd,PSs (Qim CX0 P w K mg base N qual (Qo st) f cdv A outer s H E).nox (Ja st) (tS K E0 wd)/\wd QsU (stD N [.scr])):FnOk P w K mg base CX0 (k+1) f fd [p] (spT tP tq (Qdo K)):=by
 refine F.ok S (λvs H Q E h=>?_) λcdv A outer s H vs Q E hr h=>?_
 ·obtain⟨_,a,ns,rfl,_⟩:=h;rfl
 ·obtain⟨wd,hp,hw⟩:=hbody cdv A outer s H E hr h.1;obtain⟨_,a,ns,rfl,sq,n63,k⟩:=h;have get0:∀(i:Nat) o y,(L2.start N [V.ref a])[i]? = some o->(stD N [.scr])[i]? = some y->y≠.no->o=some (.ref a)/\y=.scr:=λi o y h1 h2 hy=>by
   cases i with
   |zero=>cases h1;cases h2;exact⟨rfl,rfl⟩
   |succ i=>
    unfold stD at h2;rw[Qaa (by simp),Yr] at h2;split at h2
    ·exact absurd (Qq h2).symm hy
    ·cases h2
  have noav:∀b,¬Av (⟨H,λ_=>False,λ_=>False⟩:Fm) (L2.start N [V.ref a]) (stD N [.scr]) b:=λb z=>by
   rcases z with z | ⟨i,h1,h2⟩
   ·exact z
   ·rcases h2 with h2 | ⟨ds,h2⟩
    ·cases(get0 i _ _ h1 h2 (λz=>by cases z)).2
    ·cases(get0 i _ _ h1 h2 (λz=>by cases z)).2
  refine⟨_,hp,⟨H,λ_=>False,λ_=>False⟩,_,_,?_,hw,?_⟩
  ·exact{
    len:=by unfold L2.start stD;simp
    dom:=λ_ h=>h.elim
    dom0:=λ_ h=>h.elim
    pt0:=λ_ h=>h.elim
    kx:=λ_ _ _ e=>e
    sl:=λi o y h1 h2=>by
     cases y with
     |no=>trivial
     |scr=>
      obtain⟨rfl,_⟩:=get0 i _ _ h1 h2 (λz=>by cases z);exact⟨a,ns,rfl,sq,λz=>z,n63⟩
     |v d=>cases(get0 i _ _ h1 h2 (λz=>by cases z)).2
     |own d=>cases(get0 i _ _ h1 h2 (λz=>by cases z)).2
     |pk d=>cases(get0 i _ _ h1 h2 (λz=>by cases z)).2
     |pot=>cases(get0 i _ _ h1 h2 (λz=>by cases z)).2
    inj:=λi j b ds h1 h2 _=>by cases(get0 i _ _ h2 h1 (λz=>by cases z)).2 }
  ·exact{
    nx:=⟨λ_ h=>h.elim⟩
    rt:=λd h v H' ke dv=>by cases(show d=.bool true from h);cases dv;exact k H'
    rtF:=λd h v H' ke dv _=>by cases(show d=.bool true from h);cases dv;exact k H'
    bk:=⟨λ_ h=>h.elim⟩
    ct:=⟨λ_ h=>h.elim⟩
    ex:=Qmf }
theorem Quz{tP:Addr}{tq:Str}{x qual:Str}{st:ZH}{f:Addr}{fd:QB}{N:List Str}{p:Str}{k:Nat}(F:Fun K x qual st f fd)(S:Jd N [p] (Qo st))
  (hbody:∀(cdv:Value)(A:Q6)(outer:List Env)(s:Shared)(H:Hp)(E:XK),Room k (A.deeper (envOfC qual (Qo st) s.heap.objs.size f cdv))->TH tP tq H ->
   ∃wd,QSs (Qim CX0 P w K mg base N qual (Qo st) f cdv A outer s H E).nox E0 (Ja st) wd/\wd QsU (stD N [.scr])):FnOk P w K mg base CX0 (k+1) f fd [p] (spT tP tq (Qdo K)):=
 Qss F S λcdv A outer s H E hr hT=>let ⟨wd,h,q⟩:=hbody cdv A outer s H E hr hT;⟨wd,h.h,q⟩
end
end Dl
namespace Rt
section
variable{c:Y5->Y5->Bool}
end
structure SB (κ:QdX) (a₀:Array Y5) (st:SortSt):Prop where
 perm:(arrOf st).Perm a₀
 kind:kindOf st=κ
 failed:failedOf st=none
theorem SB.size{κ:QdX}{a₀:Array Y5}{st:SortSt}(h:SB κ a₀ st):(arrOf st).size=a₀.size:=h.perm.size_eq
section
variable{prog:QF}{w:Q9}{A:Q6}{E:Value->Shared->Prop}{s:Shared}{a₀:Array Y5}{κ:QdX}{c:Y5->Y5->Bool}
end
section
variable{c:Y5->Y5->Bool}
variable{a b r:Array Y5}{i j k:Nat}
end
structure Sm (st st':SortSt):Prop where
 kind:kindOf st'=kindOf st
 arr:arrOf st'=arrOf st
 pend:pendingOf st'=pendingOf st
 failed:failedOf st'=failedOf st
section
variable{prog:QF}{w:Q9}{A:Q6}{E:Value->Shared->Prop}{s:Shared}{a₀:Array Y5}{κ:QdX}{c:Y5->Y5->Bool}
end
section
variable{c:Y5->Y5->Bool}
variable{a b r:Array Y5}{i j t:Nat}
end
section
variable{prog:QF}{w:Q9}{A:Q6}{E:Value->Shared->Prop}{s:Shared}{a₀:Array Y5}{κ:QdX}{c:Y5->Y5->Bool}
end
section
variable{c:Y5->Y5->Bool}
end
section
variable{prog:QF}{w:Q9}{A:Q6}{E:Value->Shared->Prop}{s:Shared}{a₀:Array Y5}{κ:QdX}{c:Y5->Y5->Bool}
end
section
variable{prog:QF}{w:Q9}{A:Q6}{E:Value->Shared->Prop}{s:Shared}{a₀:Array Y5}{κ:QdX}{c:Y5->Y5->Bool}
end
end Rt
namespace Dl
open L2 _root_.Rd Rk
structure GOk (wg:DG):Prop where h:∀d δ Q,wg d δ Q->wg d δ λδ'=>(∀(j:Nat) x,δ'[j]? = some x->(∃e,x=.v e)∨δ[j]? = some x)/\Q δ'
theorem Qg8(i:Nat):GOk (gN i):=⟨λd δ Q h=>⟨λj x e=>by
 by_cases z:j=i
 ·subst z;exact .inl ⟨d,set_eq e⟩
 ·rw[ZY z] at e;exact .inr e,h⟩⟩
theorem Qke{cap:List (Option Nat)}{ix:List Nat}(hf:QaO cap ix=true){i:Nat}(hi:i∈ix):cap[i]? = some none:=by
 have:=Q7.mp hf i hi;split at this
 ·assumption
 ·cases this
theorem Qcv{cap:List (Option Nat)}{ix:List Nat}(hf:QaO cap ix=true){δ:Sts}{i:Nat}{x:Sl}(h:(Qcx cap δ)[i]? = some x)(hx:x≠.no):i∉ix:=λz=>by
 rcases QeC h with⟨_,e⟩ | ⟨j,hj,_⟩
 ·exact hx e
 ·rw[Qke hf z] at hj;cases hj
section
variable{K:PySem.W.Frag}{σ σ4:L2.St}{δ δ4:Sts}{cap:List (Option Nat)}{ix:List Nat}{A1:Addr->Prop}{H3 H5 H6:Hp}
theorem QnC(hP:∀a,ZF σ δ a->A1 a)(hf:QaO cap ix=true)(j4:∀j,j∉ix->σ4[j]? = (Qb7 cap σ)[j]?)(gk:∀(j:Nat) x,δ4[j]? = some x->(∃e,x=.v e)∨(Qcx cap δ)[j]? = some x){a:Addr}(h:Av (inF A1 cap σ δ H3) σ4 δ4 a):A1 a:=by
 rcases h with z | ⟨i,h1,h2⟩
 ·exact z
 ·refine(Qg7 (cap:=cap) (H:=H3) hP).mp ?_
  rcases h2 with h2 | ⟨ds,h2⟩
  ·rcases gk i _ h2 with⟨e,z⟩ | z
   ·cases z
   ·exact .inr ⟨i,by rw[<- j4 i (Qcv hf z (λz=>by cases z))];exact h1,.inl z⟩
  ·rcases gk i _ h2 with⟨e,z⟩ | z
   ·cases z
   ·exact .inr ⟨i,by rw[<- j4 i (Qcv hf z (λz=>by cases z))];exact h1,.inr ⟨ds,z⟩⟩
theorem Qpq(hP:∀a,ZF σ δ a->A1 a)(hf:QaO cap ix=true)(j4:∀j,j∉ix->σ4[j]? = (Qb7 cap σ)[j]?)(gk:∀(j:Nat) x,δ4[j]? = some x->(∃e,x=.v e)∨(Qcx cap δ)[j]? = some x)
  (ri:Rel K (inF A1 cap σ δ H6) (Qb7 cap σ) H6 (Qcx cap δ))(r5:Rel K (inF A1 cap σ δ H3) σ4 H5 δ4)(kk:∀a o,¬A1 a->H5 a=some o->H6 a=some o):Rel K (inF A1 cap σ δ H6) σ4 H6 δ4 where
 len:=r5.len
 dom:=ri.dom
 dom0:=ri.dom0
 pt0:=ri.pt0
 kx:=ri.kx
 sl:=λi o x h1 h2=>by
  have iv:∀{a:Addr},Av (inF A1 cap σ δ H6) σ4 δ4 a->A1 a:=λ{a} z=>QnC hP hf j4 gk z
  rcases gk i x h2 with⟨d,rfl⟩ | hx
  ·obtain⟨v,e,q⟩:=r5.sl i o _ h1 h2;exact⟨v,e,q.mv (λa o n e=>kk a o (λz=>n (.inl z)) e) λa z=>.inl (.inl (iv z))⟩
  ·by_cases hn:x=.no
   ·subst hn;trivial
   ·have h1':(Qb7 cap σ)[i]? = some o:=by rw[<- j4 i (Qcv hf hx hn)];exact h1
    have h:=ri.sl i o x h1' hx;cases x with
    |no=>trivial
    |v d=>obtain⟨v',e,q'⟩:=h;exact⟨v',e,q'.mv (λ_ _ _ e=>e) λa z=>.inl (.inl (iv z))⟩
    |own ds=>obtain⟨l,xs,e,e2,q',f⟩:=h;exact⟨l,xs,e,e2,q'.mv (λ_ _ _ e=>e) λa z=>.inl (.inl (iv z)),f⟩
    |pk ds=>obtain⟨l,xs,e,e2,q',f⟩:=h;exact⟨l,xs,e,e2,q'.mv (λ_ _ _ e=>e) λa z=>.inl (.inl (iv z)),f⟩
    |pot=>exact h
    |scr=>exact h
 inj:=λi j a ds h1 h2 _=>by
  rcases gk i _ h1 with⟨e,z⟩ | z
  ·cases z
  ·rcases QeC z with⟨_,e⟩ | ⟨j,hj,e⟩
   ·cases e
   ·exfalso
    cases e2:δ[j]? with
    |none=>rw[e2] at e;cases e
    |some y=>rw[e2] at e;cases y<;>cases e
end
theorem Qll{K:PySem.W.Frag}{F:Fm}{σ:L2.St}{δ:Sts}{H1 H3:Hp}{cap:List (Option Nat)}{ix:List Nat}{wg:DG}{wt:DT}{A1:Addr->Prop}{x:V}{d:Qa}{inner:L2.St->Hp->(Hp->Prop)->Prop}{kk:Hp->Prop}{T:Sts->Prop}{N:Prop}(gok:GOk wg)
  (hf:QaO cap ix=true)(rel:Rel K F σ H1 δ)(hA:∀a,Av F σ δ a->A1 a)(hN:∀a,A1 a->Av F σ δ a∨H1 a=none)(dm:∀a,A1 a->∃xs,H3 a=some (.lst xs))(kp:Kp σ δ H1 H3)(dx:DA A1 H3 x d)
  (h:wg d (Qcx cap δ) λδ4=>wt δ4 (λb=>if b=true then T δ4 else N) XF)
  (hT:∀σ4 δ4 H5,T δ4->Rel K (inF A1 cap σ δ H3) σ4 H5 δ4->Kp σ δ H3 H5->(∀j,j∉ix->σ4[j]? = (Qb7 cap σ)[j]?)->σ4.length=(Qb7 cap σ).length->(∀(j:Nat) x,δ4[j]? = some x->(∃e,x=.v e)∨(Qcx cap δ)[j]? = some x)->inner σ4 H5 kk)(hF:N->∀H5,Kp σ δ H3 H5->kk H5) :
  bOf (Qb7 cap σ) (tG ix K wg) (tT K E0 wt) inner x H3 kk:=by
 have ri:=Qka (cap:=cap) rel hA hN dm kp;have iv:∀{a:Addr},Av (inF A1 cap σ δ H3) (Qb7 cap σ) (Qcx cap δ) a->A1 a:=λ{a}=>(Qg7 λa z=>hA a (Yn z)).mp
 refine⟨inF A1 cap σ δ H3,Qcx cap δ,d,_,ri,dx.mv (λ_ _ _ e=>e) λa z=>.inl (iv z),gok.h _ _ _ h,λδ4 ⟨g4,h4⟩ σ4 r4 st4 l4 j4=>⟨QnK hf l4 j4,inF A1 cap σ δ H3,δ4,_,XF,r4,h4,λb hb H5 r5 kp5=>?_,Qmf⟩⟩;have pots:∀{b:Addr},ZF σ4 δ4 b->ZF σ δ b:=λz=>Qgb r4 (λb o _ e1 e2=>by rw[e2] at e1;cases e1) z
 have K5:Kp σ δ H3 H5:=by
  refine⟨λb o n e=>kp5.1 b o (λz=>n (pots z)) e,λb hb=>?_⟩;by_cases z:ZF σ4 δ4 b
  ·exact kp5.2 b z
  ·obtain⟨n,e⟩:=kp.2 b hb;exact⟨n,kp5.1 _ _ z e⟩
 exact Qa4 hb (λz=>hT σ4 δ4 H5 z r5 K5 j4 l4 g4) λz=>hF z H5 K5
theorem QpA{K:PySem.W.Frag}{σ σ4:L2.St}{δ δ4:Sts}{H1 H3 H5:Hp}{cap:List (Option Nat)}{we:DE}{A1:Addr->Prop}{p:Addr}{acc:List Qa}{kk:Hp->Prop}{G:Qa->Prop}
  (hpA:A1 p)(hP:∀a,ZF σ δ a->A1 a)(hp1:H1 p=none)(hpn:¬ZF σ δ p)(lp:Lp σ δ A1 p H1 H5 acc)(hl:acc.length<sizeLine)(r5:Rel K (inF A1 cap σ δ H3) σ4 H5 δ4)(pots:∀b,ZF σ4 δ4 b->ZF σ δ b)
  (h:we δ4 G XF)(hk:∀e,G e->∀H',Lp σ δ A1 p H1 H' (acc++[e])->(∀b o,¬A1 b->H5 b=some o->H' b=some o)->kk H'):Qp7 p (tX .D K E0 we) σ4 H5 kk:=by
 refine⟨inF A1 cap σ δ H3,δ4,G,XF,r5,h,λe he v H6 r6 kp6 dv=>?_,Qmf⟩;have k56:Kp σ δ H5 H6:=by
  refine⟨λb o n e=>kp6.1 b o (λz=>n (pots b z)) e,λb hb=>?_⟩;by_cases z:ZF σ4 δ4 b
  ·exact kp6.2 b z
  ·obtain⟨n,e⟩:=lp.kp.2 b hb;exact⟨n,kp6.1 _ _ z e⟩
 obtain⟨k6,ys,e6,q6⟩:=lp.step hP hpn k56;have up:∀{b:Addr}{o:HO},¬A1 b->H6 b=some o->upd H6 p (.lst (ys++[v])) b=some o:=λ{b o} n e=>by rw[Q5 (λz=>n (by rw[z];exact hpA))];exact e
 refine⟨ys,e6,by rw[q6.length];exact hl,hk e he _ ⟨⟨λb o n e=>?_,λb hb=>?_⟩,ys++[v],Q8,DAs.app (q6.mv (λ_ _=>up) λa z=>.inl z) (.cons (DA.mv dv (λa o n e=>up (λz=>n (.inl z)) e) λa z=>.inl (.inl z)) .nil)⟩ λb o n e=>up n (kp6.1 b o (λz=>n (hP b (pots b z))) e)⟩
 ·rw[Q5 (λz=>by rw[z,hp1] at e;cases e)];exact k6.1 b o n e
 ·rw[Q5 (λz=>hpn (by rw[<- z];exact hb))];exact k6.2 b hb
def QmD:Nat:=1000000
@[irreducible] def InR(items2:List Qa)(wg2:DG)(wt2:DT)(we:DE)(δ4:Sts)(acc:List Qa)(N:List Qa->Prop):Prop:=∃Jv:Nat->List Qa->Prop,Jv 0 acc /\
 (∀(j:Nat) acc2 d2,items2[j]? = some d2->Jv j acc2->acc2.length<QmD/\wg2 d2 δ4 λδ5=>wt2 δ5 (λb=>if b=true then we δ5 (λe=>Jv (j+1) (acc2++[e])) XF else Jv (j+1) acc2) XF)/\∀acc2,Jv items2.length acc2->N acc2
@[irreducible] def Qhp(items:List Qa)(wg:DG)(wt:DT)(wi2:DI)(wg2:DG)(wt2:DT)(we:DE)(δ:Sts)(Q:Qa->Prop):Prop:=∃Iv:Nat->List Qa->Prop,Iv 0 [] /\
 (∀(i:Nat) acc d,items[i]? = some d->Iv i acc->wg d δ λδ4=>wt δ4 (λb=>if b=true then wi2 δ4 (λitems2=>InR items2 wg2 wt2 we δ4 acc (Iv (i+1))) XF else Iv (i+1) acc) XF)/\∀acc,Iv items.length acc->Q (.list acc)
def Qku(cap:List (Option Nat))(wi:DI)(wg:DG)(wt:DT)(wi2:DI)(wg2:DG)(wt2:DT)(we:DE):DE:=λδ Q EX=>wi δ (λitems=>Qhp items wg wt wi2 wg2 wt2 we (Qcx cap δ) Q) EX
section
variable{X:Cx}{E:XK}
theorem QmC:QmD<=sizeLine:=QV (by decide) Qf8
end
section
variable{X:Cx}{E:XK}
end
theorem QsO{items2:List Qa}{wg2:DG}{wt2:DT}{we:DE}{δ4:Sts}{acc:List Qa}{N:List Qa->Prop}(G:Qa->Option Qa)(hl:acc.length+items2.length<QmD)
  (h:∀d∈items2,∀(k1:Prop)(k2:Qa->Prop),(G d=none->k1)->(∀e,G d=some e->k2 e)->wg2 d δ4 λδ5=>wt2 δ5 (λb=>if b=true then we δ5 k2 XF else k1) XF)(q:N (acc++items2.filterMap G)) :
  InR items2 wg2 wt2 we δ4 acc N:=by
 unfold InR;refine⟨λi acc2=>acc2=acc++(items2.take i).filterMap G,by simp,λi acc2 d hd e=>?_,λacc2 e=>by rw[e,JF];exact q⟩;have e:acc2=acc++(items2.take i).filterMap G:=e;have hs:(items2.take (i+1)).filterMap G=(items2.take i).filterMap G++(G d).toList:=by
  rw[JH,hd,Qih];cases e2:G d<;>simp[e2]
 refine⟨?_,h d (Qt hd) _ _ (λe2=>?_) λe' e2=>?_⟩
 ·have:=List.length_filterMap_le G (items2.take i);have h2:(items2.take i).length<=items2.length:=by rw[Qa0];exact Qd4 _ _
  rw[e,QC];omega
 ·show acc2=acc++(items2.take (i+1)).filterMap G;rw[hs,e2,e];simp
 ·show acc2++[e']=acc++(items2.take (i+1)).filterMap G;rw[hs,e2,e];simp
theorem QsN{items2:List Qa}{wg2:DG}{we:DE}{δ4:Sts}{acc:List Qa}{N:List Qa->Prop}(G:Qa->Qa)(hl:acc.length+items2.length<QmD)
  (h:∀d∈items2,∀(k2:Qa->Prop),k2 (G d)->wg2 d δ4 λδ5=>we δ5 k2 XF)(q:N (acc++items2.map G)):InR items2 wg2 Qp6 we δ4 acc N:=by
 refine QsO (λd=>some (G d)) hl (λd hd k1 k2 _ h2=>?_) (by rw[show items2.filterMap (λd=>some (G d))=items2.map G from by rw[<- List.filterMap_eq_map];rfl];exact q);have hh:=h d hd k2 (h2 _ rfl);simp only[Qp6,if_true];exact hh
def Qi5:List V->Hp->VK->Prop:=λxs H Q=>∃l ns,xs=[.ref l]/\H l=some (.lst ((ns:List Int).map V.int))/\ns.length<64 /\
 ∀t ms H2,Same H H2->H t=none->H2 t=some (.lst ((ms:List Int).map V.int))->ms.Perm ns->ms.Pairwise (·<=·)->Q (.ref t) H2
section
open Rs PySem.W PySem.Calls
variable{X:Cx}
theorem Qgk:CallR X (.builtin "sorted") Qi5:=by
 intro pins s σ H xs us Q I r h;obtain⟨l,ns,rfl,hl,h64,q⟩:=h;obtain⟨u,rfl,ru⟩:=vals1 r;cases ru;obtain⟨hz,its,n,rv,ho⟩:=I.hok l _ hl;have li:=rv.length;rw[Qe] at li;refine Qcc (.inl rfl) ho rfl rfl (by omega) λh' kp P E' hP=>?_
 have hn:(h'.push (seqObj "list" its.toArray 0)).get? h'.objs.size=some (seqObj "list" its.toArray 0):=Qp _ rfl;refine list_sort_tree (s:={ s with heap:=h'.push (seqObj "list" its.toArray 0) }) hn (Qev rv) (by omega) λout ns' ia pm pw=>hP _ ?_
 have I1:Inv X pins σ H { s with heap:=h' }:=I.kept (t':=s.toks) kp;have hf:H h'.objs.size=none:=I1.hok.fresh (Qk _);obtain⟨e,he⟩:∃e,(sortedHeap (h'.push (seqObj "list" its.toArray 0)) h'.objs.size its out).get? h'.objs.size=some (seqObj "list" out e):=sortedHeap_at hn
 have rv':=QeG ia;have lp:=pm.length_eq;have I2:Inv X pins σ (upd H h'.objs.size (.lst (ns'.map V.int))) { s with heap:=sortedHeap (h'.push (seqObj "list" its.toArray 0)) h'.objs.size its out }:=
  I1.laid (t':=s.toks) (λb x e'=>(sortedHeap_old (Qu (Qi e')) (QH (Qi e') (by rw[size_push'];exact Nat.le_succ _))).trans (Qd _ e')) (Qk _) (show ObjOk X.prog X.w _ _ _ (.lst _) from⟨by rw[Qe];exact Zs (Rk.QaM (by omega)),out.toList,e,rv',by rw[he]⟩)
 exact⟨.ref h'.objs.size,_,I2,rfl,q _ ns' _ (Js hf) hf Q8 pm pw⟩
def Qnk(K:PySem.W.Frag):List V->Hp->VK->Prop:=λxs H Q=>Qnj K xs H Q∨Qi5 xs H Q
theorem QdR:CallR X (.builtin "sorted") (Qnk X.K):=by
 intro pins s σ H xs us Q I r h;rcases h with h | h
 ·exact Qh3 pins s σ H xs us Q I r h
 ·exact Qgk pins s σ H xs us Q I r h
end
@[irreducible] def QiQ:List Qa->(Qa->Prop)->Prop
 |[.list ds],Q=>∃ns,YZ ds=some ns/\ns.length<64/\∀ms:List Int,ms.Perm ns->ms.Pairwise (·<=·)->Q (.list (ms.map .int))
 |[.tuple ds],Q=>∃ns,YZ ds=some ns/\ns.length<64/\∀ms:List Int,ms.Perm ns->ms.Pairwise (·<=·)->Q (.list (ms.map .int))
 |_,_=>False
theorem Qeu{A:Addr->Prop}{H:Hp}:∀ms:List Int,DAs A H (ms.map V.int) (ms.map .int)
 |[]=>.nil
 |m::ms=>.cons (.int m) (Qeu ms)
theorem QkG{K:PySem.W.Frag}:QaA (Qnk K) QiQ:=λA P H vs ds R Q ln dm q h k=>by
 unfold QiQ at h;split at h
 ·obtain⟨v,rfl,hv⟩:=pd1 q;obtain⟨bs,hb,h64,hR⟩:=h;rw[Qbb hb] at hv;obtain⟨l,xs,rfl,e,qq⟩:=hv.list;rw[Qal qq] at e;exact .inr ⟨l,bs,rfl,e,h64,λt ms H2 s n e2 pm pw=>k _ (hR ms pm pw) _ H2 s (QdC dm s n e2 (Qeu ms)) (Qbd n)⟩
 ·obtain⟨v,rfl,hv⟩:=pd1 q;obtain⟨bs,hb,h64,hR⟩:=h;rw[Qbb hb] at hv;obtain⟨l,xs,rfl,e,qq⟩:=hv.tuple;rw[Qal qq] at e;exact .inl ⟨l,bs,rfl,SqT.of e,h64,λt ms H2 s n e2 pm pw=>k _ (hR ms pm pw) _ H2 s (QdC dm s n e2 (Qeu ms)) (Qbd n)⟩
 ·exact h.elim
theorem QiP{ds:List Qa}{Q:Qa->Prop}{ns:List Int}(h:YZ ds=some ns)(h64:ns.length<64)(k:∀ms:List Int,ms.Perm ns->ms.Pairwise (·<=·)->Q (.list (ms.map .int))):QiQ [.list ds] Q/\QiQ [.tuple ds] Q:=by
 unfold QiQ;exact⟨⟨ns,h,h64,k⟩,ns,h,h64,k⟩
end Dl
namespace PySem
namespace AutoSeq1
open PyProof
end AutoSeq1
end PySem
namespace L2
end L2
namespace Dl
open L2 _root_.Rd Rk
section
variable{X:Cx}{E:XK}
end
theorem Qky{K:PySem.W.Frag}{E:XK}{cap:List (Option Nat)}{ix:List Nat}{wi:DI}{wg:DG}{wt:DT}{we:DE}(hf:QaO cap ix=true)(σ:L2.St)(H:Hp)(Q:VK)(h:tX .F K E (dComp cap wi wg wt we) σ H Q) :
  tComp cap (tI .P K E wi) (tG ix K wg) (tT K E0 wt) (tX .D K E0 we) σ H Q:=by
 obtain⟨F,δ,R,EX,rel,hw,k,o⟩:=h;refine⟨F,δ,_,EX,rel,hw,λitems hC J H1 rel1 kp1 ⟨ln,it⟩ p hp=>?_,o⟩;unfold Qgt at hC;obtain⟨Iv,i0,step,fin⟩:=hC;have hpn:¬ZF σ δ p:=λz=>by obtain⟨xs,e⟩:=rel1.isl (Yn (F:=F) z);rw[hp] at e;cases e
 let A1:Addr->Prop:=λa=>Av F σ δ a∨a=p
 have hP:∀a,ZF σ δ a->A1 a:=λa z=>.inl (Yn z)
 have hN:∀a,A1 a->Av F σ δ a∨H1 a=none:=λa z=>z.elim .inl λz=>.inr (by rw[z];exact hp)
 have dmK:∀{H2:Hp},Kp σ δ H1 H2->(∃ys,H2 p=some (.lst ys))->∀a,A1 a->∃xs,H2 a=some (.lst xs):=λ{H2} k2 e2 a z=>by
  rcases z with z | z
  ·exact(rel1.kp k2).isl z
  ·rw[z];exact e2
 refine QcO items.length (λi H2=>i<=items.length/\∃acc,Iv i acc/\acc.length<=i/\Lp σ δ A1 p H1 H2 acc) ⟨Jn _,[],i0,Qk _,Kp.same rel1 (Js hp),[],Q8,.nil⟩ (λi H2 hi ⟨_,acc,iv,hl,lp⟩=>?_) λH2 ⟨_,acc,iv,hl,lp⟩=>?_
 ·obtain⟨k2,ys,e2,q2⟩:=lp;obtain⟨go,_⟩:=it H2 A1 (λb o n e=>k2.1 b o n e) hN (dmK k2 ⟨ys,e2⟩);have hd:items[i]? = some items[i]:=Qg hi;obtain⟨g1,g2⟩:=go i _ hd;refine⟨g1,λx H3 y kk hk=>?_⟩;obtain⟨s3,dx⟩:=g2 x H3 y;have k23:=Kp.same (rel1.kp k2) s3;have lp3:Lp σ δ A1 p H1 H3 acc:=Lp.step hP hpn ⟨k2,ys,e2,q2⟩ k23;refine QiC hf rel1 (λa z=>.inl z) hN (dmK lp3.kp ⟨ys,s3 _ _ e2⟩) lp3.kp dx (step i acc _ hd iv) (λσ4 δ4 H5 h5 r5 k5 pots=>?_) λh5 H5 k5=>hk _ ⟨hi,acc,h5,by omega,lp3.step hP hpn k5⟩
  exact QnG (.inr rfl) hP hp hpn (lp3.step hP hpn k5) (by omega) r5 pots h5 λe he H' lp'=>hk _ ⟨hi,acc++[e],he,by rw[QC];show _+1<=_;omega,lp'⟩
 ·obtain⟨k2,ys,e2,q2⟩:=lp;obtain⟨_,st⟩:=it H2 A1 (λb o n e=>k2.1 b o n e) hN (dmK k2 ⟨ys,e2⟩);refine⟨st,k _ (fin acc iv) (.ref p) H2 (rel1.kp k2) (kp1.trans k2) ⟨.lst (λz=>?_) e2 (q2.mv (λ_ _ _ e=>e) λa z=>.inl (.inl z)),λl e1 _=>?_⟩⟩
  ·obtain⟨xs,e⟩:=rel1.isl z;rw[hp] at e;cases e
  ·cases e1;exact QaN kp1 hp
theorem Qvk{K:PySem.W.Frag}{E:XK}{w:DE}(σ:L2.St)(H:Hp)(Q:VK)(h:tX .D K E w σ H Q):tX .F K E w σ H Q:=by
 obtain⟨F,δ,R,EX,rel,hw,k,o⟩:=h;exact⟨F,δ,R,EX,rel,hw,λd hd v H' r kp vk=>k d hd v H' r kp vk.1,o⟩
section
variable{X:Cx}{E:XK}
theorem Qei(M:List Str)(cap:List (Option Nat))(i:Nat){elt tg iter:QM}{ifs:List QM}{scope:Z3}{pos py spos:Pos}{y:Str}{ix:List Nat}{wi:DI}{wg:DG}{wt:DT}{we:DE}(hN:X.N.Nodup)(hi:QI .P X E tg iter wi)(hb:∀cl ex s3 H3 C,QG ix (blk X M scope cl ex s3 H3 C) tg wg/\QTs (blk X M scope cl ex s3 H3 C) E0 ifs wt/\QE .D (blk X M scope cl ex s3 H3 C) E0 elt we)(hiy:X.N[i]? = some y:=by rfl)(hly:X.env.scope.names.lookup y=some .local:=by rfl)(hc:X.calm=true:=by rfl)(ok:Qdk X.N X.env.scope M scope cap=true:=by rfl)(hf:QaO cap ix=true:=by rfl)(hs:∀x,foldedSetIterable iter X.env x=pure x:=by intro _;rfl)(hsw:swapsWith (.ListComp elt [⟨tg,iter,ifs,0⟩] scope pos) (some (.Name y py)) spos.line X.env=pure true:=by rfl):QS X E (.Assign [.Name y py] (.ListComp elt [⟨tg,iter,ifs,0⟩] scope pos) spos) (QtA i (dComp cap wi wg wt we)):=
 ⟨QfY (PS.imp (PS.imp (QlN hN hiy hly hc ok hi.h (λcl ex s3 H3 C=>⟨(hb cl ex s3 H3 C).1.h,(hb cl ex s3 H3 C).2.1.h,(hb cl ex s3 H3 C).2.2.h⟩) hs hsw) λD σ H q=>Qky (E:=E) hf σ H _ q) λD σ H q=>Qvk σ H _ q)⟩
end
theorem QdP{K:PySem.W.Frag}{E:XK}{cap:List (Option Nat)}{ix ix2:List Nat}{wi wi2:DI}{wg wg2:DG}{wt wt2:DT}{we:DE}(gok:GOk wg)(hf:QaO cap ix=true)(hf2:QaO cap ix2=true)(hd:ix2.all (λi => !ix.contains i)=true)(σ:L2.St)(H:Hp)(Q:VK)(h:tX .F K E (Qku cap wi wg wt wi2 wg2 wt2 we) σ H Q) :
  Qnc cap (tI .P K E wi) (tG ix K wg) (tT K E0 wt) (tI .D K E0 wi2) (tG ix2 K wg2) (tT K E0 wt2) (tX .D K E0 we) σ H Q:=by
 obtain⟨F,δ,R,EX,rel,hw,k,o⟩:=h;refine⟨F,δ,_,EX,rel,hw,λitems hC J H1 rel1 kp1 ⟨ln,it⟩ p hp=>?_,o⟩;unfold Qhp at hC;obtain⟨Iv,i0,step,fin⟩:=hC;have hpn:¬ZF σ δ p:=λz=>by obtain⟨xs,e⟩:=rel1.isl (Yn (F:=F) z);rw[hp] at e;cases e
 let A1:Addr->Prop:=λa=>Av F σ δ a∨a=p
 have hP:∀a,ZF σ δ a->A1 a:=λa z=>.inl (Yn z)
 have hN:∀a,A1 a->Av F σ δ a∨H1 a=none:=λa z=>z.elim .inl λz=>.inr (by rw[z];exact hp)
 have dmK:∀{H2:Hp},Kp σ δ H1 H2->(∃ys,H2 p=some (.lst ys))->∀a,A1 a->∃xs,H2 a=some (.lst xs):=λ{H2} k2 e2 a z=>by
  rcases z with z | z
  ·exact(rel1.kp k2).isl z
  ·rw[z];exact e2
 refine QcO items.length (λi H2=>i<=items.length/\∃acc,Iv i acc/\Lp σ δ A1 p H1 H2 acc) ⟨Jn _,[],i0,Kp.same rel1 (Js hp),[],Q8,.nil⟩ (λi H2 hi ⟨_,acc,iv,lp⟩=>?_) λH2 ⟨_,acc,iv,lp⟩=>?_
 ·obtain⟨k2,ys,e2,q2⟩:=lp;obtain⟨go,_⟩:=it H2 A1 (λb o n e=>k2.1 b o n e) hN (dmK k2 ⟨ys,e2⟩);have hd':items[i]? = some items[i]:=Qg hi;obtain⟨g1,g2⟩:=go i _ hd';refine⟨g1,λx H3 y kk hk=>?_⟩;obtain⟨s3,dx⟩:=g2 x H3 y;have k23:=Kp.same (rel1.kp k2) s3;have lp3:Lp σ δ A1 p H1 H3 acc:=Lp.step hP hpn ⟨k2,ys,e2,q2⟩ k23;refine Qll gok hf rel1 (λa z=>.inl z) hN (dmK lp3.kp ⟨ys,s3 _ _ e2⟩) lp3.kp dx (step i acc _ hd' iv) (λσ4 δ4 H5 h5 r5 k5 j4 l4 g4=>?_) λh5 H5 k5=>hk _ ⟨hi,acc,h5,lp3.step hP hpn k5⟩
  have av4:∀{H:Hp}{a:Addr},Av (inF A1 cap σ δ H) σ4 δ4 a->A1 a:=λ{H a} z=>QnC hP hf j4 g4 z
  refine⟨inF A1 cap σ δ H3,δ4,_,XF,r5,h5,λitems2 hJ J2 H7 rel7 kp7 ⟨ln2,it2⟩=>?_,Qmf⟩;unfold InR at hJ;obtain⟨Jv,z0,step2,fin2⟩:=hJ;have pots4:∀{b:Addr},ZF σ4 δ4 b->ZF σ δ b:=λ{b} z=>by
   obtain⟨j,z1,z2⟩:=z;rcases g4 j _ z2 with⟨e,z⟩ | z
   ·cases z
   ·exact Qbe ⟨j,by rw[<- j4 j (Qcv hf z (λz=>by cases z))];exact z1,z⟩
  have k57:Kp σ δ H5 H7:=by
   refine⟨λb o n e=>kp7.1 b o (λz=>n (pots4 z)) e,λb hb=>?_⟩;by_cases z:ZF σ4 δ4 b
   ·exact kp7.2 b z
   ·obtain⟨n,e⟩:=k5.2 b hb;exact⟨n,kp7.1 _ _ z e⟩
  refine QcO items2.length (λj H8=>j<=items2.length/\∃acc2,Jv j acc2/\Lp σ δ A1 p H1 H8 acc2/\∀b o,¬A1 b->H7 b=some o->H8 b=some o) ⟨Jn _,acc,z0,(lp3.step hP hpn k5).step hP hpn k57,λ_ _ _ e=>e⟩ (λj H8 hj ⟨_,acc2,jv,lp8,s78⟩=>?_) λH8 ⟨_,acc2,jv,lp8,s78⟩=>?_
  ·obtain⟨ys8,e8,q8⟩:=lp8.at_;obtain⟨go2,_⟩:=it2 H8 A1 (λb o n e=>s78 b o (λz=>n (.inl z)) e) (λb z=>.inl (.inl z)) (dmK lp8.kp ⟨ys8,e8⟩);have hd2:items2[j]? = some items2[j]:=Qg hj;obtain⟨g3,g5⟩:=go2 j _ hd2;refine⟨g3,λx2 H9 y2 kk2 hk2=>?_⟩;obtain⟨s9,dx2⟩:=g5 x2 H9 y2;have k89:=Kp.same (rel1.kp lp8.kp) s9;have lp9:Lp σ δ A1 p H1 H9 acc2:=lp8.step hP hpn k89;have ri:=Qka (cap:=cap) rel1 (λa z=>.inl z) hN (dmK lp9.kp ⟨ys8,s9 _ _ e8⟩) lp9.kp;have r9:=Qpq hP hf j4 g4 ri r5 λa o n e=>s9 _ _ (s78 a o n (k57.1 a o (λz=>n (hP a z)) e))
   obtain⟨hl2,hw2⟩:=step2 j acc2 _ hd2 jv;refine⟨inF A1 cap σ δ H9,δ4,_,_,r9,dx2.mv (λ_ _ _ e=>e) λa z=>.inl (av4 z),hw2,λδ5 h6 σ5 r10 st5 l5 j5=>⟨Qlh l5 λi v e=>?_,inF A1 cap σ δ H9,δ5,_,XF,r10,h6,λb hb H10 r11 kp11=>?_,Qmf⟩⟩
   ·by_cases z:i∈ix2
    ·have n1:i∉ix:=λz2=>by
      have:=Q7.mp hd i z;simp[z2] at this
     rw[j4 i n1] at e;rcases QeB e with⟨_,e2⟩ | ⟨j,hj2,_⟩
     ·cases e2
     ·rw[Qke hf2 z] at hj2;cases hj2
    ·rw[j5 i z];exact e
   ·have pots:∀{b:Addr},ZF σ5 δ5 b->ZF σ δ b:=λz=>Qgb r10 (λb o _ e1 e2=>by rw[e2] at e1;cases e1) z
    have K10:Kp σ δ H9 H10:=by
     refine⟨λb o n e=>kp11.1 b o (λz=>n (pots z)) e,λb hb=>?_⟩;by_cases z:ZF σ5 δ5 b
     ·exact kp11.2 b z
     ·obtain⟨n,e⟩:=lp9.kp.2 b hb;exact⟨n,kp11.1 _ _ z e⟩
    have s710:∀b o,¬A1 b->H7 b=some o->H10 b=some o:=λb o n e=>K10.1 b o (λz=>n (hP b z)) (s9 _ _ (s78 b o n e))
    refine Qa4 hb (λz=>?_) λz=>hk2 _ ⟨hj,acc2,z,lp9.step hP hpn K10,s710⟩
    exact QpA (.inr rfl) hP hp hpn (lp9.step hP hpn K10) (QH hl2 QmC) r11 (λb=>pots) z λe he H' lp' kk'=>hk2 _ ⟨hj,acc2++[e],he,lp',λb o n e=>kk' b o n (s710 b o n e)⟩
  ·obtain⟨ys8,e8,q8⟩:=lp8.at_;obtain⟨_,st2⟩:=it2 H8 A1 (λb o n e=>s78 b o (λz=>n (.inl z)) e) (λb z=>.inl (.inl z)) (dmK lp8.kp ⟨ys8,e8⟩);exact⟨st2,hk _ ⟨hi,acc2,fin2 acc2 jv,lp8⟩⟩
 ·obtain⟨k2,ys,e2,q2⟩:=lp;obtain⟨_,st⟩:=it H2 A1 (λb o n e=>k2.1 b o n e) hN (dmK k2 ⟨ys,e2⟩);refine⟨st,k _ (fin acc iv) (.ref p) H2 (rel1.kp k2) (kp1.trans k2) ⟨.lst (λz=>?_) e2 (q2.mv (λ_ _ _ e=>e) λa z=>.inl (.inl z)),λl e1 _=>?_⟩⟩
  ·obtain⟨xs,e⟩:=rel1.isl z;rw[hp] at e;cases e
  ·cases e1;exact QaN kp1 hp
section
variable{X:Cx}{E:XK}
theorem Qi8(M:List Str)(cap:List (Option Nat))(i:Nat){elt tg iter tg2 iter2:QM}{ifs ifs2:List QM}{scope:Z3}{pos py spos:Pos}{y:Str}{ix ix2:List Nat}{wi wi2:DI}{wg wg2:DG}{wt wt2:DT}{we:DE}(hN:X.N.Nodup)(gok:GOk wg)(hi:QI .P X E tg iter wi)(hb:∀cl ex s3 H3 C,QG ix (blk X M scope cl ex s3 H3 C) tg wg/\QTs (blk X M scope cl ex s3 H3 C) E0 ifs wt/\QI .D (blk X M scope cl ex s3 H3 C) E0 tg2 iter2 wi2/\QG ix2 (blk X M scope cl ex s3 H3 C) tg2 wg2/\QTs (blk X M scope cl ex s3 H3 C) E0 ifs2 wt2/\QE .D (blk X M scope cl ex s3 H3 C) E0 elt we)(hiy:X.N[i]? = some y:=by rfl)(hly:X.env.scope.names.lookup y=some .local:=by rfl)(hc:X.calm=true:=by rfl)(ok:Qdk X.N X.env.scope M scope cap=true:=by rfl)(hf:QaO cap ix=true:=by rfl)(hf2:QaO cap ix2=true:=by rfl)(hd:ix2.all (λi => !ix.contains i)=true:=by rfl)(hs:∀x,foldedSetIterable iter X.env x=pure x:=by intro _;rfl)(hs2:∀env x,foldedSetIterable iter2 env x=pure x:=by intro _ _;rfl)(hsw:swapsWith (.ListComp elt [⟨tg,iter,ifs,0⟩,⟨tg2,iter2,ifs2,0⟩] scope pos) (some (.Name y py)) spos.line X.env=pure true:=by rfl):QS X E (.Assign [.Name y py] (.ListComp elt [⟨tg,iter,ifs,0⟩,⟨tg2,iter2,ifs2,0⟩] scope pos) spos) (QpE i (Qku cap wi wg wt wi2 wg2 wt2 we)):=
 ⟨QgR (PS.imp (Qe9 hN hiy hly hc ok hi.h (λcl ex s3 H3 C=>⟨(hb cl ex s3 H3 C).1.h,(hb cl ex s3 H3 C).2.1.h,(hb cl ex s3 H3 C).2.2.1.h,(hb cl ex s3 H3 C).2.2.2.1.h,(hb cl ex s3 H3 C).2.2.2.2.1.h,(hb cl ex s3 H3 C).2.2.2.2.2.h⟩) hs hs2 hsw) λD σ H q=>QdP (E:=E) gok hf hf2 hd σ H _ q)⟩
theorem QlH(M:List Str)(cap:List (Option Nat))(i:Nat){elt tg iter tg2 iter2:QM}{ifs ifs2:List QM}{scope:Z3}{pos py spos:Pos}{y:Str}{ix ix2:List Nat}{wi wi2:DI}{wg wg2:DG}{wt wt2:DT}{we:DE}(hN:X.N.Nodup)(gok:GOk wg)(hi:QI .P X E tg iter wi)(hb:∀cl ex s3 H3 C,QG ix (blk X M scope cl ex s3 H3 C) tg wg/\QTs (blk X M scope cl ex s3 H3 C) E0 ifs wt/\QI .D (blk X M scope cl ex s3 H3 C) E0 tg2 iter2 wi2/\QG ix2 (blk X M scope cl ex s3 H3 C) tg2 wg2/\QTs (blk X M scope cl ex s3 H3 C) E0 ifs2 wt2/\QE .D (blk X M scope cl ex s3 H3 C) E0 elt we)(hiy:X.N[i]? = some y:=by rfl)(hly:X.env.scope.names.lookup y=some .local:=by rfl)(hc:X.calm=true:=by rfl)(ok:Qdk X.N X.env.scope M scope cap=true:=by rfl)(hf:QaO cap ix=true:=by rfl)(hf2:QaO cap ix2=true:=by rfl)(hd:ix2.all (λi => !ix.contains i)=true:=by rfl)(hs:∀x,foldedSetIterable iter X.env x=pure x:=by intro _;rfl)(hs2:∀env x,foldedSetIterable iter2 env x=pure x:=by intro _ _;rfl)(hsw:swapsWith (.ListComp elt [⟨tg,iter,ifs,0⟩,⟨tg2,iter2,ifs2,0⟩] scope pos) (some (.Name y py)) spos.line X.env=pure true:=by rfl):QS X E (.Assign [.Name y py] (.ListComp elt [⟨tg,iter,ifs,0⟩,⟨tg2,iter2,ifs2,0⟩] scope pos) spos) (QtA i (Qku cap wi wg wt wi2 wg2 wt2 we)):=
 ⟨QfY (PS.imp (PS.imp (Qe9 hN hiy hly hc ok hi.h (λcl ex s3 H3 C=>⟨(hb cl ex s3 H3 C).1.h,(hb cl ex s3 H3 C).2.1.h,(hb cl ex s3 H3 C).2.2.1.h,(hb cl ex s3 H3 C).2.2.2.1.h,(hb cl ex s3 H3 C).2.2.2.2.1.h,(hb cl ex s3 H3 C).2.2.2.2.2.h⟩) hs hs2 hsw) λD σ H q=>QdP (E:=E) gok hf hf2 hd σ H _ q) λD σ H q=>Qvk σ H _ q)⟩
end
theorem Qbr(L:List (Int×Int)):nds (L.map Rk.pairD)=true:=Qf5.mpr λd hd=>by
 obtain⟨i,_,rfl⟩:=Qs.mp hd;rfl
def rkD:Qa->Nat
 |.int _=>0
 |.tuple _=>1
 |_=>2
def QeO(i j:Int):Ordering:=if i<j then .lt else if i=j then .eq else .gt
def Qv6(i j:Nat):Ordering:=if i<j then .lt else if i=j then .eq else .gt
def thn(o:Ordering)(p:Ordering):Ordering:=match o with
 |.eq=>p
 |o=>o
mutual
def QaW:Qa->Qa->Ordering
 |.int i,.int j=>QeO i j
 |.tuple a,.tuple b=>Qan a b
 |x,y=>Qv6 (rkD x) (rkD y)
def Qan:List Qa->List Qa->Ordering
 |[],[]=>.eq
 |[],_::_=>.lt
 |_::_,[]=>.gt
 |x::xs,y::ys=>thn (QaW x y) (Qan xs ys)
end
def isL:Ordering->Bool
 |.lt=>true
 |_=>false
def ltD(x y:Qa):Bool:=isL (QaW x y)
def Qsw(x y:List Qa):Bool:=isL (Qan x y)
def sw:Ordering->Ordering
 |.lt=>.gt
 |.gt=>.lt
 |.eq=>.eq
def QdK:Ordering->Bool
 |.gt=>false
 |_=>true
theorem Qrn(a b:Ordering):sw (thn a b)=thn (sw a) (sw b):=by cases a<;>rfl
theorem QpK(i j:Int):QeO j i=sw (QeO i j):=by
 unfold QeO;by_cases h:i<j
 ·rw[if_neg (by omega),if_neg (by omega),if_pos h];rfl
 ·by_cases h2:i=j
  ·rw[if_neg (by omega),if_pos h2.symm,if_neg h,if_pos h2];rfl
  ·rw[if_pos (by omega),if_neg h,if_neg h2];rfl
theorem QpL(i j:Int):QdK (QeO i j)=decide (i<=j):=by
 unfold QeO;by_cases h:i<j
 ·rw[if_pos h];exact(decide_eq_true (by omega)).symm
 ·by_cases h2:i=j
  ·rw[if_neg h,if_pos h2];exact(decide_eq_true (by omega)).symm
  ·rw[if_neg h,if_neg h2];exact(decide_eq_false (by omega)).symm
mutual
theorem Qb5:∀(x y:Qa),QaW y x=sw (QaW x y)
 |.int i,.int j=>QpK i j
 |.tuple a,.tuple b=>Qhj a b
 |.int _,.tuple _=>rfl
 |.tuple _,.int _=>rfl
 |.int _,.none=>rfl
 |.int _,.bool _=>rfl
 |.int _,.str _=>rfl
 |.int _,.list _=>rfl
 |.int _,.dict _=>rfl
 |.tuple _,.none=>rfl
 |.tuple _,.bool _=>rfl
 |.tuple _,.str _=>rfl
 |.tuple _,.list _=>rfl
 |.tuple _,.dict _=>rfl
 |.none,y=>by cases y<;>rfl
 |.bool _,y=>by cases y<;>rfl
 |.str _,y=>by cases y<;>rfl
 |.list _,y=>by cases y<;>rfl
 |.dict _,y=>by cases y<;>rfl
theorem Qhj:∀(xs ys:List Qa),Qan ys xs=sw (Qan xs ys)
 |[],[]=>rfl
 |[],_::_=>rfl
 |_::_,[]=>rfl
 |x::xs,y::ys=>by
  show thn (QaW y x) (Qan ys xs)=sw (thn (QaW x y) (Qan xs ys));rw[Qb5 x y,Qhj xs ys,Qrn]
end
theorem QsA{a c:Ordering}(hab:QdK a=true)(h:QdK (sw c)=true->QdK (sw a)=true)(ha:a=.lt):c=.lt:=by
 subst ha;cases c with
 |lt=>rfl
 |eq=>cases h rfl
 |gt=>cases h rfl
mutual
theorem QeA:∀(x y z:Qa),QdK (QaW x y)=true->QdK (QaW y z)=true->QdK (QaW x z)=true
 |.int i,.int j,.int k,h1,h2=>by
  have h1:QdK (QeO i j)=true:=h1;have h2:QdK (QeO j k)=true:=h2;show QdK (QeO i k)=true;rw[QpL] at h1 h2 ⊢;have a:=of_decide_eq_true h1;have b:=of_decide_eq_true h2;exact decide_eq_true (by omega)
 |.tuple a,.tuple b,.tuple c,h1,h2=>Qhi a b c h1 h2
 |.int _,y,.tuple _,h1,h2=>rfl
 |.int _,.tuple _,.int _,h1,h2=>by cases h2
 |.tuple _,.int _,z,h1,h2=>by cases h1
 |.tuple _,.tuple _,.int _,h1,h2=>by cases h2
 |.int _,y,.none,_,_=>rfl
 |.int _,y,.bool _,_,_=>rfl
 |.int _,y,.str _,_,_=>rfl
 |.int _,y,.list _,_,_=>rfl
 |.int _,y,.dict _,_,_=>rfl
 |.tuple _,y,.none,_,_=>rfl
 |.tuple _,y,.bool _,_,_=>rfl
 |.tuple _,y,.str _,_,_=>rfl
 |.tuple _,y,.list _,_,_=>rfl
 |.tuple _,y,.dict _,_,_=>rfl
 |.int _,.none,.int _,h1,h2=>by cases h2
 |.int _,.bool _,.int _,h1,h2=>by cases h2
 |.int _,.str _,.int _,h1,h2=>by cases h2
 |.int _,.list _,.int _,h1,h2=>by cases h2
 |.int _,.dict _,.int _,h1,h2=>by cases h2
 |.tuple _,.none,.int _,h1,h2=>by cases h2
 |.tuple _,.bool _,.int _,h1,h2=>by cases h2
 |.tuple _,.str _,.int _,h1,h2=>by cases h2
 |.tuple _,.list _,.int _,h1,h2=>by cases h2
 |.tuple _,.dict _,.int _,h1,h2=>by cases h2
 |.tuple _,.none,.tuple _,h1,h2=>by cases h2
 |.tuple _,.bool _,.tuple _,h1,h2=>by cases h2
 |.tuple _,.str _,.tuple _,h1,h2=>by cases h2
 |.tuple _,.list _,.tuple _,h1,h2=>by cases h2
 |.tuple _,.dict _,.tuple _,h1,h2=>by cases h2
 |.none,y,z,h1,h2=>by cases y<;>cases z<;>first | rfl | (cases h1;done) | (cases h2;done)
 |.bool _,y,z,h1,h2=>by cases y<;>cases z<;>first | rfl | (cases h1;done) | (cases h2;done)
 |.str _,y,z,h1,h2=>by cases y<;>cases z<;>first | rfl | (cases h1;done) | (cases h2;done)
 |.list _,y,z,h1,h2=>by cases y<;>cases z<;>first | rfl | (cases h1;done) | (cases h2;done)
 |.dict _,y,z,h1,h2=>by cases y<;>cases z<;>first | rfl | (cases h1;done) | (cases h2;done)
 termination_by x y z=>sizeOf x+sizeOf y+sizeOf z
theorem Qhi:∀(xs ys zs:List Qa),QdK (Qan xs ys)=true->QdK (Qan ys zs)=true->QdK (Qan xs zs)=true
 |[],_,[],_,_=>rfl
 |[],_,_::_,_,_=>rfl
 |_::_,[],_,h1,_=>by cases h1
 |_::_,_::_,[],_,h2=>by cases h2
 |x::xs,y::ys,z::zs,h1,h2=>by
  have h1:QdK (thn (QaW x y) (Qan xs ys))=true:=h1;have h2:QdK (thn (QaW y z) (Qan ys zs))=true:=h2;show QdK (thn (QaW x z) (Qan xs zs))=true;have a1:QdK (QaW x y)=true:=by cases e:QaW x y<;>rw[e] at h1<;>first | rfl | cases h1
  have a2:QdK (QaW y z)=true:=by cases e:QaW y z<;>rw[e] at h2<;>first | rfl | cases h2
  have a3:=QeA x y z a1 a2;cases e1:QaW x y with
  |gt=>rw[e1] at a1;cases a1
  |lt=>
   have:QaW x z=.lt:=QsA (a:=QaW x y) a1 (λq=>by
    rw[<- Qb5 x z] at q;rw[<- Qb5 x y];exact QeA y z x a2 q) e1
   rw[this];rfl
  |eq=>
   cases e2:QaW y z with
   |gt=>rw[e2] at a2;cases a2
   |lt=>
    have:QaW x z=.lt:=QsA (a:=QaW y z) a2 (λq=>by
     rw[<- Qb5 x z] at q;rw[<- Qb5 y z];exact QeA z x y q a1) e2
    rw[this];rfl
   |eq=>
    rw[e1] at h1;rw[e2] at h2;cases e3:QaW x z with
    |gt=>rw[e3] at a3;cases a3
    |lt=>rfl
    |eq=>exact Qhi xs ys zs h1 h2
 termination_by x y z=>sizeOf x+sizeOf y+sizeOf z
end
theorem QsL(o:Ordering):isL (sw o) = !QdK o:=by cases o<;>rfl
theorem QnA(x y:Qa):ltD y x = !QdK (QaW x y):=by unfold ltD;rw[Qb5 x y,QsL]
theorem Qg1(x y:Qa)(h:ltD x y=true):ltD y x=false:=by
 rw[QnA];unfold ltD at h;cases e:QaW x y<;>rw[e] at h<;>first | rfl | cases h
theorem Qsx(x y z:Qa)(h1:ltD y x=false)(h2:ltD z y=false):ltD z x=false:=by
 rw[QnA] at h1 h2 ⊢;rw[QeA x y z (by simpa using h1) (by simpa using h2)];rfl
mutual
def Qk6:Qa->Qa->Bool
 |.int _,.int _=>true
 |.tuple a,.tuple b=>Qc4 a b
 |_,_=>false
def Qc4:List Qa->List Qa->Bool
 |x::xs,y::ys=>Qk6 x y&&Qc4 xs ys
 |_,_=>true
end
def isE:Ordering->Bool
 |.eq=>true
 |_=>false
theorem Qpn(a b:Ordering):isE (thn a b)=(isE a&&isE b):=by cases a<;>rfl
mutual
theorem QnE:∀(x y:Qa),Qk6 x y=true->Jh x y=isE (QaW x y)
 |.int i,.int j,_=>by
  show(i == j)=isE (QeO i j);unfold QeO;by_cases h:i=j
  ·subst h;simp[isE]
  ·rw[beq_eq_false_iff_ne.mpr h];split
   ·rfl
   ·rfl
 |.tuple a,.tuple b,h=>Qkj a b h
 |.int _,.tuple _,h=>by cases h
 |.tuple _,.int _,h=>by cases h
 |.int _,.none,h=>by cases h
 |.int _,.bool _,h=>by cases h
 |.int _,.str _,h=>by cases h
 |.int _,.list _,h=>by cases h
 |.int _,.dict _,h=>by cases h
 |.tuple _,.none,h=>by cases h
 |.tuple _,.bool _,h=>by cases h
 |.tuple _,.str _,h=>by cases h
 |.tuple _,.list _,h=>by cases h
 |.tuple _,.dict _,h=>by cases h
 |.none,y,h=>by cases y<;>cases h
 |.bool _,y,h=>by cases y<;>cases h
 |.str _,y,h=>by cases y<;>cases h
 |.list _,y,h=>by cases y<;>cases h
 |.dict _,y,h=>by cases y<;>cases h
theorem Qkj:∀(xs ys:List Qa),Qc4 xs ys=true->QpU xs ys=isE (Qan xs ys)
 |[],[],_=>rfl
 |[],_::_,_=>rfl
 |_::_,[],_=>rfl
 |x::xs,y::ys,h=>by
  have h:=QR.mp (show(Qk6 x y&&Qc4 xs ys)=true from h);show(Jh x y&&QpU xs ys)=isE (thn (QaW x y) (Qan xs ys));rw[QnE x y h.1,Qkj xs ys h.2,Qpn]
end
end Dl
namespace Rt
open PySem.Calls Dl
theorem Qfl:∀{ds:List Qa}{d:Qa},d∈ds->d.depth<=Ji ds
 |x::ds,d,h=>by
  show d.depth<=max x.depth (Ji ds);rcases Qy.mp h with z | z
  ·subst z;exact Nat.le_max_left _ _
  ·exact QV (Qfl z) (QpW _ _)
theorem readsAll_len{h:JU}:∀{vs:List Value}{ds:List Qa}{as:List Addr},Qcl h vs ds as->vs.length=ds.length
 |_,_,_,.nil=>rfl
 |_,_,_,.cons _ r=>by rw[QK,QK,readsAll_len r]
section
open PySem.SeqAt
open PySem.AutoSeq1 (wpAny_loadPart')
open PySem.MeetsSeq PySem.MeetsSeq2 PySem.MeetsSeq3
theorem QeW{l b:Addr}{items items2:Array Value}{n n2:Nat}{dd dd2:Option Addr}{sl sl2:Array (Option Value)}{ds es:List Qa}{as bs:List Addr}{N:Nat}(hk:Qc4 ds es=true)(hc1:Jz ds=true)(hc2:Jz es=true)(hd:Ji ds<=N)
  (ih:∀(x y:Qa)(A:Q6)(s:Shared)(v u:Value)(p q:List Addr),Qip s.heap v x p->Qip s.heap u y q->x.canLay0=true->y.canLay0=true->Qk6 x y=true->x.depth<=N->A.units+2*N+2<cLine->∀(prog:QF)(w:Q9)(E Q:Value->Shared->Prop),Q (.bool (ltD x y)) s->wpAny (model prog w) A (richCompare .Lt v u) Q E s) :
  Meets (Qhx.«tuple.__lt__» ⟨[.ref l,.ref b],[]⟩)
   (λA R s=>s.heap.get? l=some { cls:=.type "tuple",dict:=dd,data:=.seq items n,slots:=sl }/\s.heap.get? b=some { cls:=.type "tuple",dict:=dd2,data:=.seq items2 n2,slots:=sl2 }/\Qcl s.heap items.toList ds as/\Qcl s.heap items2.toList es bs/\A.units+2*N+4<cLine /\
    R (.ok (.ret (.bool (Qsw ds es)))) s):=
 .of_wp λprog w A R s h=>by
  obtain⟨hp,g,d,tk,os⟩:=s;obtain⟨hl,hb,hr1,hr2,hu,h⟩:=h;have f2:=AutoSeq1.sub_tuple_tuple;have hu1:A.in1.units+2*N+2<cLine:=by show A.units+1+2*N+2<cLine;omega
  have z1:items.size=ds.length:=by rw[<- readsAll_len hr1];simp
  have z2:items2.size=es.length:=by rw[<- readsAll_len hr2];simp
  wp_walk using ZG hl,ZG hb,wpAny_forIn_list _ (λrest b s'=>b.1=none/\s'=⟨hp,g,d,tk,os⟩/\∃(vs ws:List Value)(xs ys:List Qa)(p q:List Addr),rest=vs.zip ws /\
   Qcl hp vs xs p/\Qcl hp ws ys q/\Qc4 xs ys=true/\Jz xs=true/\Jz ys=true/\Ji xs<=N/\xs.length+items2.size=ys.length+items.size/\R (.ok (.ret (.bool (Qsw xs ys)))) ⟨hp,g,d,tk,os⟩) _
  case turn=>
   rintro⟨y,x⟩ rest b s' ⟨hb',rfl,vs,ws,xs,ys,p,q,hz,hvi,hwi,hkk,c1,c2,hdd,hlen,hR⟩;cases hvi with
   |nil=>rw[Qm3] at hz;cases hz
   |@cons v0 vs0 d1 ds1 as1 as2 r1 hvi'=>
    cases hwi with
    |nil=>rw[Qlc] at hz;cases hz
    |@cons u0 us0 d2 ds2 bs1 bs2 r2 hwi'=>
     rw[Qad] at hz;injection hz with hyx hrest
     injection hyx with hy hx
     subst hy hx;have hkk:=QR.mp (show(Qk6 d1 d2&&Qc4 ds1 ds2)=true from hkk);simp only[Jz,Jk] at c1 c2;have dm1:d1.depth<=N:=QV (Qfl (ds:=d1::ds1) (.head _)) hdd;have dm2:Ji ds1<=N:=QV (show Ji ds1<=max d1.depth (Ji ds1) from QpW _ _) hdd;simp only[QK] at hlen;have he:=Qm0 d1 d2 A.in1 ⟨hp,g,d,tk,os⟩ y x _ _ r1 r2 c1.1 c2.1 (by omega);have hR:R (.ok (.ret (.bool (isL (thn (QaW d1 d2) (Qan ds1 ds2)))))) ⟨hp,g,d,tk,os⟩:=hR;rw[QnE d1 d2 hkk.1] at he;have hri:=λE Q=>ih d1 d2 A.in1 ⟨hp,g,d,tk,os⟩ y x _ _ r1 r2 c1.1 c2.1 hkk.1 dm1 hu1 prog w E Q
     unfold ltD at hri;cases e1:QaW d1 d2 with
     |lt=>
      rw[e1] at he hR hri;refine wpAny_bind (he prog w _ _ ?_)
      wp_walk using hri
      exact⟨_,rfl,hR⟩
     |gt=>
      rw[e1] at he hR hri;refine wpAny_bind (he prog w _ _ ?_)
      wp_walk using hri
      exact⟨_,rfl,hR⟩
     |eq=>
      rw[e1] at he hR;refine wpAny_bind (he prog w _ _ ?_)
      wp_walk
      exact⟨rfl,rfl,_,_,_,_,_,_,hrest,hvi',hwi',hkk.2,c1.2,c2.2,dm2,by omega,hR⟩
  case fin=>
   rintro⟨b1,b2⟩ s' ⟨hb',rfl,vs,ws,xs,ys,p,q,hz,hvi,hwi,hkk,c1,c2,hdd,hlen,hR⟩;simp only at hb';subst hb';have hv:Qsw xs ys=decide (items.size<items2.size):=by
    cases hvi with
    |nil=>
     cases hwi with
     |nil=>
      simp only[Yq] at hlen;exact(decide_eq_false (by omega)).symm
     |cons r2 hw=>
      simp only[Yq,QK] at hlen;exact(decide_eq_true (by omega)).symm
    |cons r1 hv=>
     cases hwi with
     |nil=>
      simp only[Yq,QK] at hlen;exact(decide_eq_false (by omega)).symm
     |cons r2 hw=>
      rw[Qad] at hz;cases hz
   rw[hv] at hR
   wp_walk
   exact⟨_,rfl,by simpa [Qa9] using hR⟩
  case h=>
   exact⟨rfl,rfl,items.toList,items2.toList,ds,es,as,bs,rfl,hr1,hr2,hk,hc1,hc2,hd,by omega,h⟩
end
end Rt
namespace Rt
open PySem.Calls PySem.W Dl
mutual
def okK:Qa->Bool
 |.int _=>true
 |.tuple ds=>QjI ds
 |_=>false
def QjI:List Qa->Bool
 |[]=>true
 |d::ds=>okK d&&QjI ds
end
theorem Qug:∀(N:Nat)(x y:Qa)(A:Q6)(s:Shared)(v u:Value)(p q:List Addr),Qip s.heap v x p->Qip s.heap u y q->x.canLay0=true->y.canLay0=true->Qk6 x y=true->x.depth<=N->A.units+2*N+2<cLine->∀(prog:QF)(w:Q9)(E Q:Value->Shared->Prop),Q (.bool (ltD x y)) s->wpAny (model prog w) A (richCompare .Lt v u) Q E s:=by
 intro N;have intz:∀(i j:Int)(A:Q6)(s:Shared)(v u:Value)(p q:List Addr),Qip s.heap v (.int i) p->Qip s.heap u (.int j) q->∀(prog:QF)(w:Q9)(E Q:Value->Shared->Prop),Q (.bool (ltD (.int i) (.int j))) s->wpAny (model prog w) A (richCompare .Lt v u) Q E s:=by
  intro i j A s v u p q r1 r2 prog w E Q h;cases r1;cases r2;refine HT.QgJ A s i _ j _ prog w E Q ?_
  have e:ltD (.int i) (.int j)=decide (i<j):=by
   show isL (QeO i j)=_;unfold QeO;by_cases z:i<j
   ·rw[if_pos z,decide_eq_true z];rfl
   ·rw[if_neg z,decide_eq_false z];split<;>rfl
  rw[e] at h;exact h
 induction N with
 |zero=>
  intro x y A s v u p q r1 r2 c1 c2 hk hd hu prog w E Q h;cases x<;>cases y<;>first | (cases hk;done) | skip
  ·exact intz _ _ A s v u p q r1 r2 prog w E Q h
  ·unfold Jx at hd;omega
 |succ N ih=>
  intro x y A s v u p q r1 r2 c1 c2 hk hd hu prog w E Q h;cases x<;>cases y<;>first | (cases hk;done) | skip
  ·exact intz _ _ A s v u p q r1 r2 prog w E Q h
  ·rename_i ds es
   cases r1 with
   |@tuple a o vs n _ _ ho hc hd' ra=>
    cases r2 with
    |@tuple b o2 vs2 n2 _ _ ho2 hc2 hd2 rb=>
     obtain⟨cls,dd,data,sl⟩:=o;obtain⟨cls2,dd2,data2,sl2⟩:=o2;simp only at hc hd' hc2 hd2;subst hc hd' hc2 hd2;have dd3:Ji ds<=N:=by unfold Jx at hd;omega
     exact QmZ (op:=.Lt) ⟨_,ho,rfl⟩ ⟨_,ho2,rfl⟩ PySem.F.slot_tuple_lt PySem.F.entry_tuple_lt (PySem.F.args_tuple_lt_2 _ _) (QeW (N:=N) hk c1 c2 dd3 ih)
      ⟨ho,ho2,ra,rb,by omega,show Yl (Qsw ds es)≠Qia/\Q (.bool (Qsw ds es)) s from⟨(λx=>nomatch x),h⟩⟩ (by omega)
section
variable{prog:QF}{w:Q9}{A:Q6}{E:Value->Shared->Prop}{s:Shared}
end
section
variable{M:Model}{A:Q6}{E:Value->Shared->Prop}{s:Shared}
end
theorem QgV:∀{ds:List Qa},QjI ds=true->∀d∈ds,okK d=true
 |x::ds,h,d,hd=>by
  have h:=QR.mp (show(okK x&&QjI ds)=true from h);rcases Qy.mp hd with z | z
  ·rw[z];exact h.1
  ·exact QgV h.2 d z
theorem QjH:∀{ds:List Qa},(∀d∈ds,okK d=true)->QjI ds=true
 |[],_=>rfl
 |x::ds,h=>by
  show(okK x&&QjI ds)=true;rw[h x (.head _),QjH λd hd=>h d (.tail _ hd)];rfl
section
variable{prog:QF}{w:Q9}{A:Q6}{E:Value->Shared->Prop}{s:Shared}
end
end Rt
namespace Rt
open PySem.Calls PySem.W Dl Rs
section
variable{prog:QF}{w:Q9}{A:Q6}{E:Value->Shared->Prop}{s:Shared}
end
mutual
theorem Qkz:∀(d:Qa),Qk6 d d=true->okK d=true
 |.int _,_=>rfl
 |.tuple ds,h=>Qhh ds h
 |.none,h=>by cases h
 |.bool _,h=>by cases h
 |.str _,h=>by cases h
 |.list _,h=>by cases h
 |.dict _,h=>by cases h
theorem Qhh:∀(ds:List Qa),Qc4 ds ds=true->QjI ds=true
 |[],_=>rfl
 |d::ds,h=>by
  have h:=QR.mp (show(Qk6 d d&&Qc4 ds ds)=true from h);show(okK d&&QjI ds)=true;rw[Qkz d h.1,Qhh ds h.2];rfl
end
structure Qap (ds:List Qa):Prop where
 cmp:∀x∈ds,∀y∈ds,Qk6 x y=true
 dep:∀x∈ds,x.depth<=20
end Rt
namespace L2
open PySem.Calls _root_.Rd _root_.Rk _root_.Rs Rt Dl
section
variable{X:Cx}
end
end L2
namespace Dl
open L2 _root_.Rd Rk Rt
mutual
theorem Qst:∀(d:Qa),okK d=true->nd d=true
 |.int _,_=>rfl
 |.tuple ds,h=>Qf2 ds h
 |.none,h=>by cases h
 |.bool _,h=>by cases h
 |.str _,h=>by cases h
 |.list _,h=>by cases h
 |.dict _,h=>by cases h
theorem Qf2:∀(ds:List Qa),QjI ds=true->nds ds=true
 |[],_=>rfl
 |d::ds,h=>by
  have h:=QR.mp (show(okK d&&QjI ds)=true from h);show(nd d&&nds ds)=true;rw[Qst d h.1,Qf2 ds h.2];rfl
end
end Dl
namespace Rt
open L2 _root_.Rd Rk _root_.Rs Dl
def atD(ds:List Qa)(i:Nat):Qa:=ds.getD i .none
def Qgm(ds:List Qa)(j:Nat):Nat:=argBest (λa b=>ltD (atD ds a) (atD ds b)) j
theorem Qg0(x:Qa):ltD x x=false:=by
 cases h:ltD x x with
 |false=>rfl
 |true=>rw[Qg1 x x h] at h;exact h.symm
theorem QdU(ds:List Qa):∀k,Qgm ds k<=k/\∀j,j<=k->ltD (atD ds j) (atD ds (Qgm ds k))=false
 |0=>⟨Qk _,λj hj=>by
   have:j=0:=by omega
   subst this;exact Qg0 _⟩
 |k+1=>by
  obtain⟨h1,h2⟩:=QdU ds k;have eb:Qgm ds (k+1)=if ltD (atD ds (k+1)) (atD ds (Qgm ds k))=true then k+1 else Qgm ds k:=rfl
  rw[eb];cases hb:ltD (atD ds (k+1)) (atD ds (Qgm ds k)) with
  |true=>
   rw[if_pos rfl];refine⟨Qk _,λj hj=>?_⟩;by_cases z:j=k+1
   ·rw[z];exact Qg0 _
   ·exact Qsx _ _ _ (Qg1 _ _ hb) (h2 j (by omega))
  |false=>
   rw[if_neg Qj];refine⟨by omega,λj hj=>?_⟩;by_cases z:j=k+1
   ·rw[z];exact hb
   ·exact h2 j (by omega)
end Rt
namespace L2
open PySem.Calls _root_.Rd _root_.Rk _root_.Rs Rt Dl
section
variable{X:Cx}{pins:List (Addr×Obj)}{σ:St}{l it S:Addr}{xs:List V}{ds:List Qa}{H0:Hp}{R:Qk0->Shared->Prop}
theorem Qew{H:Hp}:∀{xs:List V}{ds:List Qa},Dats H xs ds->∀(i:Nat)(x:V),xs[i]? = some x->Dat H x (atD ds i)/\atD ds i∈ds
 |_,_,.nil,i,x,h=>nomatch h
 |_,_,.cons a b,0,x,h=>by cases h;exact⟨a,.head _⟩
 |_,_,.cons a b,i+1,x,h=>by
  obtain⟨p,q⟩:=Qew b i x h;exact⟨p,.tail _ q⟩
theorem Qfm{H:Hp}:∀{xs:List V}{ds:List Qa},Dats H xs ds->xs.length=ds.length
 |_,_,.nil=>rfl
 |_,_,.cons _ b=>by rw[QK,QK,Qfm b]
theorem Qfj(hl:H0 l=some (.lst xs))(hS0:H0 S=none)(dts:Dats H0 xs ds)(so:Qap ds)(hu:X.A.units+60<cLine)(hc:X.calm=true)
  (hR:∀u s' H' x,xs[Qgm ds (xs.length - 1)]? = some x->RelV x u->Inv X pins σ H' s'->ZA S H0 H'->R (.ok (.ret u)) s') :
  ∀(k j:Nat)(s:Shared)(H:Hp)(x:V),xs.length - (j+1)=k->j+1<=xs.length->Inv X pins σ H s->FpOk X pins H it->s.heap.IsListIter it l (j+1)->ZA S H0 H->H S=some (.lst [x,x])->xs[Qgm ds j]? = some x ->
  codeAny (model X.prog X.w) X.A (.builtin "min.loop" ⟨[.ref it,.none,.ref S],[]⟩) R s:=by
 have hname:(toString "min" ++ toString ".loop" : String) = "min.loop" := by decide
 have hlS:l≠S:=λz=>by rw[z,hS0] at hl;cases hl
 intro k;induction k with
 |zero=>
  intro j s H x hk hj I hf st kp eS hx;have hin:j+1=xs.length:=by omega
  obtain⟨_,its,n,rv,ln,ho⟩:=I.lstM eS;obtain⟨u,w',e2,r1,r2⟩:∃u w',its=[u,w']/\RelV x u/\RelV x w':=by
   match its,rv with
   |[u,w'],.cons a (.cons b .nil)=>exact⟨u,w',rfl,a,b⟩
  subst e2;obtain⟨hz,its,n2,rl,ll,hol⟩:=I.lstM (kp _ _ hlS hl);obtain⟨f0,f1,f2,f3,f4,f5⟩:=hf;refine Yd ZM ?_
  rw[J9 Jg _];show wpAny _ X.A.in1 (seqItems? (.ref S) >>= _) _ _ s;refine wpAny_bind (Ju ho rfl ?_);show wpAny _ X.A.in1 (tryCatch (pyNext (.ref it)) _ >>= _) _ _ s;refine wpAny_bind (J7 (Y1 (I.ok.hd hc) st ⟨_,hol,rfl,_,rfl⟩ (by simp;omega) λh' eb=>?_));have I1:Inv X pins σ H { s with heap:=h' }:=I.turned (t':=s.toks) (λb o hb e=>eb b o hb e) f0 f1 f3 f4 f5;have ho1:h'.get? S=_:=eb S _ (λz=>by rw[z,f0] at eS;cases eS) ho;show wpAny _ X.A.in1 (updateSeq S (λ_=>#[]) >>= _) _ _ _;refine wpAny_bind ?_
  refine YF ho1 rfl (wpAny_bind (ZL (Qh ?_)));refine hR u _ _ x (by rw[<- hin];exact hx) r1 (QbQ (vs:=[]) (zs:=[]) I1 eS .nil (Jn _)) λb o hb e=>?_
  rw[Q5 hb];exact kp b o hb e
 |succ k ih=>
  intro j s H x hk hj I hf st kp eS hx;have hlt:j+1<xs.length:=by omega
  obtain⟨_,its,n,rv,ln,ho⟩:=I.lstM eS;obtain⟨u,w',e2,r1,r2⟩:∃u w',its=[u,w']/\RelV x u/\RelV x w':=by
   match its,rv with
   |[u,w'],.cons a (.cons b .nil)=>exact⟨u,w',rfl,a,b⟩
  subst e2;obtain⟨hz,its,n2,rl,ll,hol⟩:=I.lstM (kp _ _ hlS hl);obtain⟨v,hv,rv2⟩:=rl.get (i:=j+1) (x:=xs[j+1]) (Qg hlt);obtain⟨f0,f1,f2,f3,f4,f5⟩:=id hf;have nS:S≠it:=λz=>by rw[z,f0] at eS;cases eS
  refine Yd ZM ?_
  rw[J9 Jg _];show wpAny _ X.A.in1 (seqItems? (.ref S) >>= _) _ _ s;refine wpAny_bind (Ju ho rfl ?_);show wpAny _ X.A.in1 (tryCatch (pyNext (.ref it)) _ >>= _) _ _ s;refine wpAny_bind (J7 (ZW st ⟨_,hol,rfl,_,rfl⟩ (x:=v) (by simpa using hv) λh' st' sb=>?_));have I1:Inv X pins σ H { s with heap:=h' }:=I.turned (t':=s.toks) (λb o hb e=>(sb.2 b hb).trans e) f0 f1 f3 f4 f5;have ho2:h'.get? S=_:=(sb.2 S nS).trans ho;have sm:Same H0 H:=λb o e=>kp b o (λz=>by rw[z,hS0] at e;cases e) e
  obtain⟨dj,mj⟩:=Qew dts (j+1) _ (Qg hlt);obtain⟨db,mb⟩:=Qew dts _ _ hx;obtain⟨⟨b1,q1⟩,c1⟩:=Yk I1.hok _ _ _ (dj.same sm) rv2;obtain⟨⟨b2,q2⟩,c2⟩:=Yk I1.hok _ _ _ (db.same sm) r2;show wpAny _ X.A.in1 (tryCatch (holding [v,v] (richCompare .Lt v w' >>= _)) _ >>= _) _ _ _;refine wpAny_bind (J7 (JQ (wpAny_bind (Qug 20 _ _ X.A.in1 _ v w' _ _ q1 q2 c1 c2 (so.cmp _ mj _ mb) (so.dep _ mj) (by show X.A.units+1+2*20+2<cLine;omega) _ _ _ _ ?_))));refine wpAny_bind (JQ (Jp ?_));refine wpAny_bind (ZL (Qh ?_));have eb:Qgm ds (j+1)=if ltD (atD ds (j+1)) (atD ds (Qgm ds j))=true then j+1 else Qgm ds j:=rfl
  cases hb:ltD (atD ds (j+1)) (atD ds (Qgm ds j)) with
  |true=>
   rw[hb,if_pos rfl] at eb;simp only[if_true];refine wpAny_bind ?_
   refine YF ho2 rfl (wpAny_bind (ZL ?_));rw[hname];have I3:=QbQ (vs:=[v,v]) (zs:=[xs[j+1],xs[j+1]]) I1 eS (.cons rv2 (.cons rv2 .nil)) (by show 2<=sizeLine;decide);refine Qh ⟨Yh Jg _,ih (j+1) _ _ xs[j+1] (by omega) hlt I3 ⟨by rw[Q5 (QaB nS)];exact f0,f1,f2,f3,f4,f5⟩ (st'.at λo e=>(JT _ _ nS).trans e) (λb o hb e=>by rw[Q5 hb];exact kp b o hb e) Q8 (by rw[eb];exact Qg hlt)⟩
  |false=>
   rw[hb,if_neg Qj] at eb;simp only[Qle,if_false];refine wpAny_bind (ZL ?_);rw[hname];exact Qh ⟨Yh Jg _,ih (j+1) _ _ x (by omega) hlt I1 ⟨f0,f1,f2,f3,f4,f5⟩ st' kp eS (by rw[eb];exact hx)⟩
theorem Qen(hl:H0 l=some (.lst xs))(hS0:H0 S=none)(dts:Dats H0 xs ds)(so:Qap ds)(hu:X.A.units+60<cLine)(hc:X.calm=true)(hn:0<xs.length)
  (hR:∀u s' H' x,xs[Qgm ds (xs.length - 1)]? = some x->RelV x u->Inv X pins σ H' s'->ZA S H0 H'->R (.ok (.ret u)) s'){s:Shared}{H:Hp}(I:Inv X pins σ H s)(hf:FpOk X pins H it)(st:s.heap.IsListIter it l 0)(kp:ZA S H0 H)(eS:H S=some (.lst [])) :
  codeAny (model X.prog X.w) X.A (.builtin "min.loop" ⟨[.ref it,.none,.ref S],[]⟩) R s:=by
 have hname:(toString "min" ++ toString ".loop" : String) = "min.loop" := by decide
 have hlS:l≠S:=λz=>by rw[z,hS0] at hl;cases hl
 obtain⟨_,its,n,rv,ln,ho⟩:=I.lstM eS;cases rv;obtain⟨hz,its,n2,rl,ll,hol⟩:=I.lstM (kp _ _ hlS hl);obtain⟨v,hv,rv2⟩:=rl.get (i:=0) (x:=xs[0]) (Qg hn);obtain⟨f0,f1,f2,f3,f4,f5⟩:=id hf;have nS:S≠it:=λz=>by rw[z,f0] at eS;cases eS
 refine Yd ZM ?_
 rw[J9 Jg _];show wpAny _ X.A.in1 (seqItems? (.ref S) >>= _) _ _ s;refine wpAny_bind (Ju ho rfl ?_);show wpAny _ X.A.in1 (tryCatch (pyNext (.ref it)) _ >>= _) _ _ s;refine wpAny_bind (J7 (ZW st ⟨_,hol,rfl,_,rfl⟩ (x:=v) (by simpa using hv) λh' st' sb=>?_));have I1:Inv X pins σ H { s with heap:=h' }:=I.turned (t':=s.toks) (λb o hb e=>(sb.2 b hb).trans e) f0 f1 f3 f4 f5;have ho2:h'.get? S=_:=(sb.2 S nS).trans ho;show wpAny _ X.A.in1 (updateSeq S (λ_=>#[v,v]) >>= _) _ _ _;refine wpAny_bind ?_
 refine YF ho2 rfl ?_
 rw[hname];have I3:=QbQ (vs:=[v,v]) (zs:=[xs[0],xs[0]]) I1 eS (.cons rv2 (.cons rv2 .nil)) (by show 2<=sizeLine;decide);exact Qh ⟨Yh Jg _,Qfj hl hS0 dts so hu hc hR _ 0 _ _ xs[0] rfl hn I3 ⟨by rw[Q5 (QaB nS)];exact f0,f1,f2,f3,f4,f5⟩ (st'.at λo e=>(JT _ _ nS).trans e) (λb o hb e=>by rw[Q5 hb];exact kp b o hb e) Q8 (Qg hn)⟩
end
section
variable{X:Cx}
def QrG:List V->Hp->VK->Prop:=λvs H Q=>∃(l:Addr)(xs:List V)(ds:List Qa),vs=[.ref l]/\H l=some (.lst xs)/\Dats H xs ds/\Qap ds/\0<xs.length /\
 ∀x,xs[Qgm ds (xs.length - 1)]? = some x->∀H',Same H H'->Q x H'
theorem QkM(hc:X.calm=true)(hu:X.A.units+60<cLine):CallR X (.builtin "min") QrG:=by
 intro pins s σ H vs us Q I r h;obtain⟨l,xs,ds,rfl,hl,dts,so,hn,q⟩:=h;obtain⟨u,rfl,ru⟩:=vals1 r;cases ru;have hname:(toString "min" ++ toString ".loop" : String) = "min.loop" := by decide
 refine call_function_tree F.kind_min F.plain_min F.entry_min (F.args_min1 _) ?_
 show wpAny _ X.A.in1 (Zw "min" ["key", "default"] 0 ⟨[],[]⟩ >>= _) _ _ s;refine wpAny_bind (Qp9 (show Zw "min" ["key", "default"] 0 ⟨[],[]⟩=pure [none,none] from rfl) ?_);refine wpAny_bind (Qh ?_);obtain⟨hz,its,n,rl,ll,hol⟩:=I.lstM hl;refine wpAny_bind (YS (l:=l) ⟨_,hol,rfl,_,rfl⟩ ?_);have I1:Inv X pins σ H { s with heap:=s.heap.push { cls:=.type "list_iterator",data:=.fields #[.ref l,.int 0 0] } }:=I.kept (t':=s.toks) λb o e=>Qd _ e
 have hf:FpOk X pins H s.heap.objs.size:=I.fpOk (Qk _) (I.hok.fresh (Qk _));generalize hs1:({ s with heap:=s.heap.push { cls:=.type "list_iterator",data:=.fields #[.ref l,.int 0 0] } }:Shared)=s1 at I1;have st1:s1.heap.IsListIter s.heap.objs.size l 0:=by rw[<- hs1];exact⟨_,Qp _ rfl,rfl,rfl⟩
 have z1:s1.heap.objs.size=s.heap.objs.size+1:=by rw[<- hs1];exact Zh ..
 refine wpAny_bind (JB ?_);have I2:=I1.lnew (t':=s1.toks) (ys:=[]) (its:=[]) .nil (Jn _);have fS:H s1.heap.objs.size=none:=I1.hok.fresh (Qk _);have nit:s.heap.objs.size≠s1.heap.objs.size:=by rw[z1];exact Qu (YT _)
 have kp:ZA s1.heap.objs.size H (upd H s1.heap.objs.size (.lst [])):=λb o hb e=>by rw[Q5 hb];exact e
 obtain⟨f0,f1,f2,f3,f4,f5⟩:=hf;have hf2:FpOk X pins (upd H s1.heap.objs.size (.lst [])) s.heap.objs.size:=⟨by rw[Q5 nit];exact f0,f1,f2,f3,f4,f5⟩;have st2:(s1.heap.push { cls:=.type "list",data:=.seq ([]:List Value).toArray }).IsListIter s.heap.objs.size l 0:=st1.at λo e=>Qd _ e
 have sm:∀{H':Hp},ZA s1.heap.objs.size H H'->Same H H':=λk b o e=>k b o (λz=>by rw[z,fS] at e;cases e) e
 rw[hname];refine Qh ⟨Yh Jg _,?_⟩;exact Qen hl fS dts so hu hc hn (λu s' H' x hx r I' k=>⟨x,H',I',r,q x hx H' (sm k)⟩) I2 hf2 st2 kp Q8
end
end L2
namespace Dl
open L2 _root_.Rd Rk Rt
@[irreducible] def Qmy:List Qa->(Qa->Prop)->Prop
 |[.list ds],Q=>Qap ds/\0<ds.length/\∀m∈ds,(∀y∈ds,ltD y m=false)->Q m
 |_,_=>False
theorem Qph{ds:List Qa}{Q:Qa->Prop}(h:Qap ds)(h0:0<ds.length)(k:∀m∈ds,(∀y∈ds,ltD y m=false)->Q m):Qmy [.list ds] Q:=by
 unfold Qmy;exact⟨h,h0,k⟩
theorem Qkq{A:Addr->Prop}{H:Hp}:∀{xs:List V}{ds:List Qa},DAs A H xs ds->∀(i:Nat)(x:V),xs[i]? = some x->∃d,ds[i]? = some d/\DA A H x d
 |_,_,.nil,i,x,h=>nomatch h
 |_,_,.cons a b,0,x,h=>by cases h;exact⟨_,rfl,a⟩
 |_,_,.cons a b,i+1,x,h=>Qkq b i x h
theorem QpN:QaA QrG Qmy:=λA P H vs ds R Q ln dm q h k=>by
 unfold Qmy at h;split at h
 ·rename_i ds
  obtain⟨v,rfl,hv⟩:=pd1 q;obtain⟨l,xs,rfl,e,qq⟩:=hv.list;obtain⟨so,h0,hR⟩:=h;have okds:QjI ds=true:=QjH λd hd=>Qkz d (so.cmp d hd d hd)
  have dts:=Qam _ _ (Qf2 ds okds) qq;have hlen:=Qfm dts;refine⟨l,xs,ds,rfl,e,dts,so,by omega,λx hx H' sm=>?_⟩;obtain⟨d,hd,da⟩:=Qkq qq _ x hx;have hm:=Qt hd;have ed:atD ds (Qgm ds (xs.length - 1))=d:=by unfold atD;rw[QD,hd];rfl
  refine k d (hR d hm λy hy=>?_) x H' sm (da.same sm) ?_
  ·obtain⟨i,hi⟩:=Jy.mp hy;have hil:=(Qr.mp hi).1;have:=(QdU ds (xs.length - 1)).2 i (by omega)
   rwa [ed,show atD ds i=y by unfold atD;rw[QD,hi];rfl] at this
  ·have ok:=QgV okds d hm;intro l' e1 ⟨ys,e2⟩;subst e1;have da2:=da.same sm;cases d with
   |tuple es=>
    cases da2 with
    |tup _ e4 _=>rw[e4] at e2;cases e2
   |int i=>cases da2
   |_=>cases ok
 ·exact h.elim
end Dl
namespace L2
open PySem.Calls _root_.Rd _root_.Rk Rt
section
variable{X:Cx}
theorem Qi3(bs:List Bool):((JN bs.length).any λi=>(bs[i]?).getD false)=bs.any id:=by
 rw[Zo,Qdm,Qdm];constructor
 ·rintro⟨i,hi,h⟩;have hl:=JX.mp hi;rw[Qg hl] at h;exact⟨bs[i],Qa1 hl,h⟩
 ·rintro⟨b,hb,h⟩;obtain⟨i,hi⟩:=Jy.mp hb;exact⟨i,JX.mpr (Qr.mp hi).1,by rw[hi];exact h⟩
theorem QmV:CallR X (.builtin "any") (λxs H Q=>∃(p:Addr)(bs:List Bool),xs=[.ref p]/\SqL X.K H p (bs.map V.bl)/\X.calm=true/\Q (.bl (bs.any id)) H):=by
 intro pins s σ H xs us Q I r h;obtain⟨p,bs,rfl,hp,hc,q⟩:=h;obtain⟨u,rfl,ru⟩:=vals1 r;cases ru;obtain⟨its,rv,pl,hz⟩:=I.list hp;have hl:=pl.isList;have hb:=Qhn rv;have hlt:p<s.heap.objs.size:=by obtain⟨_,e,_⟩:=hl;exact Qi e
 refine call_any_walk (YS hl ?_);refine⟨s.heap.objs.size,[s.heap.objs.size,p],[s.heap.objs.size],its.toArray.size,_,_,λi=>(bs[i]?).getD false,rfl,Walks.list (A:=X.A.in1) (I.ok.hd hc) _ p (Qu hlt) its.toArray,
  ⟨⟨_,Qp _ rfl,rfl,rfl⟩,hl.push _⟩,λi v s' Q' E' hP hQ=>?_,λh' tk hk=>?_⟩
 ·obtain⟨b,e,rfl⟩:=hb.get i v (by simpa using hP);simp only[e,Qla] at hQ;exact Jp hQ
 ·have e:((JN its.toArray.size).any λi=>(bs[i]?).getD false)=bs.any id:=by
   rw[Qm,hb.length];exact Qi3 bs
  rw[e];exact⟨.bl _,H,I.kept (Qhu hk),rfl,q⟩
end
end L2
namespace Dl
open L2 _root_.Rd Rk Rt
theorem bt_any:bootBuiltins "any" = some (.builtin "any"):=PyProof.Rows.boot_any
@[irreducible] def QtB:List Qa->(Qa->Prop)->Prop
 |[.list ds],Q=>∃bs,QaQ ds=some bs/\Q (.bool (bs.any id))
 |_,_=>False
theorem Qta{K:PySem.W.Frag}{cm:Bool}(hc:cm=true):QaA (λxs H Q=>∃(p:Addr)(bs:List Bool),xs=[.ref p]/\SqL K H p (bs.map V.bl)/\cm=true/\Q (.bl (bs.any id)) H) QtB:=λA P H vs ds R Q ln dm q h k=>by
 unfold QtB at h;split at h
 ·obtain⟨v,rfl,hv⟩:=pd1 q;obtain⟨bs,hb,hR⟩:=h;rw[bools_eq hb] at hv;obtain⟨l,xs,rfl,e,qq⟩:=hv.list;rw[Qc1 qq] at e;exact⟨l,bs,rfl,SqL.of e,hc,k _ hR _ H (Same.refl H) (.bl _) Yj⟩
 ·exact h.elim
theorem any_map{α:Type}(l:List α)(g:α->Bool):(l.map g).any id=l.any g:=by rw[Qii];rfl
theorem QpR{ds:List Qa}{Q:Qa->Prop}{g:Qa->Bool}{items:List Qa}(h:ds=[.list (items.map λd=>.bool (g d))])(q:Q (.bool (items.any g))):QtB ds Q:=by
 subst h;unfold QtB;refine⟨items.map g,?_,by rw[any_map];exact q⟩;rw[show items.map (λd=>Zi (g d))=(items.map g).map Zi by rw[Je];rfl,Qfw]
section
variable{X:Cx}{E:XK}
end
end Dl
namespace Rk
open L2 _root_.Rd Dl
def inW(d:Qa)(a b:Int):Bool:=match d with
 |.int i=>decide (a<=i)&&decide (i<=b)
 |_=>false
theorem Qpr{i a b:Int}(h1:a<=i)(h2:i<=b):inW (.int i) a b=true:=by
 show(decide (a<=i)&&decide (i<=b))=true;rw[decide_eq_true h1,decide_eq_true h2];rfl
theorem QsP{d:Qa}{a b:Int}(h:inW d a b=true):∃i,d=.int i/\a<=i/\i<=b:=by
 cases d<;>first | (cases h;done) | skip
 rename_i i
 have h:=QR.mp (show(decide (a<=i)&&decide (i<=b))=true from h);exact⟨i,rfl,of_decide_eq_true h.1,of_decide_eq_true h.2⟩
def QcA:DF:=λargs R _=>∃d a b,args=[.v d,.v (.int a),.v (.int b)]/\R (.bool (inW d a b))
theorem Qtx(ns:List Int):(ns.map Qf).length=ns.length:=Qe _
theorem Qct(ns:List Int):nds (ns.map Qf)=true:=Qf5.mpr λd hd=>by
 obtain⟨i,_,rfl⟩:=Qs.mp hd;rfl
end Rk
namespace Rx
open PySem.Calls L2
section
variable{X:Cx}{e:QM}{st:ZH}{rest:List ZH}{pos:Pos}{te:TX}{t u:TSX}
end
end Rx
namespace L2
open Dl
end L2
namespace Dl
open L2 _root_.Rd Rk
section
variable{X:Cx}
variable{k:Nat}{f:Addr}{fd:QB}{ps:List Str}{x:Str}{p pos:Pos}{e:QM}{es:List QM}{fD:DF}{wa:DSl}
end
end Dl
namespace Rk
open L2 _root_.Rd Dl Rt
def Quf:List Qa->Bool
 |x::y::r=>ltD x y&&Quf (y::r)
 |_=>true
def ltP2:Qa->Bool
 |.tuple [a,b]=>ltD a b
 |_=>false
theorem Qs9(d:Qa)(ds:List Qa):Dl.cutD (d::ds) (some 1) none=ds:=by
 unfold Dl.cutD;rw[HT.Qlz,show(1:Int)=((1:Nat):Int) from rfl,HT.Qoc];rw[Nat.min_eq_left (by rw[QK];omega),List.drop_one,List.tail_cons,QK,Nat.add_sub_cancel,JF]
def toP:Qa->Int×Int
 |.tuple [.int a,.int b]=>(a,b)
 |_=>(0,0)
theorem Qjq(L:List (Int×Int)):(L.map pairD).map toP=L:=by
 rw[Je]
 conv=>rhs;rw[<- Qb8 L]
 rfl
theorem QcZ(p:Int×Int):(pairD p).depth<=1:=by
 show Ji [.int p.1,.int p.2]+1<=1;simp[Ji,Jx]
theorem Qak{n:Nat}:∀{ds:List Qa},(∀d∈ds,d.depth<=n)->Ji ds<=n
 |[],_=>Jn _
 |d::ds,h=>by
  show max d.depth (Ji ds)<=n;exact Nat.max_le.mpr ⟨h d (.head _),Qak λd hd=>h d (.tail _ hd)⟩
theorem Qc3:∀(L M:List (Int×Int)),Qc4 (L.map pairD) (M.map pairD)=true
 |[],[]=>rfl
 |[],_::_=>rfl
 |_::_,[]=>rfl
 |_::L,_::M=>by show(true&&Qc4 (L.map pairD) (M.map pairD))=true;rw[Qc3 L M];rfl
theorem Qgd(L:List (Int×Int)):(ZP (L.map pairD)).depth<=2:=by
 show Ji (L.map pairD)+1<=2;have:=Qak (n:=1) (ds:=L.map pairD) λd hd=>by obtain⟨p,_,rfl⟩:=Qs.mp hd;exact QcZ p
 omega
def stT(L:List (Int×Int)):Qa:=.tuple (L.map pairD)
theorem QcB(Ls:List (List (Int×Int))):Qap (Ls.map stT):=⟨λx hx y hy=>by
 obtain⟨L,_,rfl⟩:=Qs.mp hx;obtain⟨M,_,rfl⟩:=Qs.mp hy;exact Qc3 L M,λx hx=>by
 obtain⟨L,_,rfl⟩:=Qs.mp hx;exact QV (Qgd L) (by decide)⟩
def plt(p q:Int×Int):Prop:=p.1<q.1∨(p.1=q.1/\p.2<q.2)
instance plt_dec (p q:Int×Int):Decidable (plt p q):=by unfold plt;exact inferInstance
def bdD(h w:Int)(cs:List (Int×Int)):Qa:=.tuple [.int h,.int w,.tuple (cs.map pairD)]
theorem QdV(ns:List Int):YZ (ns.map Qf)=some ns:=Dl.ints_map ns
def Qe6(r n:Nat)(f:Nat->Nat->Bool):List (Int×Int):=((JN n).filter (f r)).map λ(c:Nat)=>((r:Int),(c:Int))
def YO(h w:Nat)(f:Nat->Nat->Bool):List (Int×Int):=(JN h).flatMap λr=>Qe6 r w f
theorem Qao(h w:Nat)(f:Nat->Nat->Bool):YO (h+1) w f=YO h w f++Qe6 h w f:=by
 unfold YO;rw[QpY,Ym];simp
theorem Qbs{r n:Nat}{f:Nat->Nat->Bool}{p:Int×Int}:p∈Qe6 r n f↔∃c:Nat,c<n/\f r c=true/\p=((r:Int),(c:Int)):=by
 unfold Qe6;rw[Qs];constructor
 ·rintro⟨c,hc,rfl⟩;have hc:=JE.mp hc;exact⟨c,JX.mp hc.1,hc.2,rfl⟩
 ·rintro⟨c,hc,hf,rfl⟩;exact⟨c,JE.mpr ⟨JX.mpr hc,hf⟩,rfl⟩
theorem QdF{h w:Nat}{f:Nat->Nat->Bool}{p:Int×Int}:p∈YO h w f↔∃r c:Nat,r<h/\c<w/\f r c=true/\p=((r:Int),(c:Int)):=by
 unfold YO;rw[QaZ];constructor
 ·rintro⟨r,hr,hp⟩;obtain⟨c,hc,hf,rfl⟩:=Qbs.mp hp;exact⟨r,c,JX.mp hr,hc,hf,rfl⟩
 ·rintro⟨r,c,hr,hc,hf,rfl⟩;exact⟨r,JX.mpr hr,Qbs.mpr ⟨c,hc,hf,rfl⟩⟩
theorem Qfn{h w:Nat}{f:Nat->Nat->Bool}{p:Int×Int}(q:p∈YO h w f):0<=p.1/\p.1<h/\0<=p.2/\p.2<w:=by
 obtain⟨r,c,hr,hc,_,rfl⟩:=QdF.mp q;exact⟨Qm9 _,by show(r:Int)<h;omega,Qm9 _,by show(c:Int)<w;omega⟩
theorem Qef(r n:Nat)(f:Nat->Nat->Bool):(Qe6 r n f).length<=n:=by
 unfold Qe6;rw[Qe];exact QV (Zr _ _) (by rw[Jc];exact Qk _)
theorem Qb6(w:Nat)(f:Nat->Nat->Bool):∀h,(YO h w f).length<=h*w
 |0=>Jn _
 |h+1=>by
  have:=Qb6 w f h;have:=Qef h w f;rw[Qao,QC,Qis];omega
theorem QcV(r n:Nat)(f:Nat->Nat->Bool):(Qe6 r n f).filter (λp=>decide (p.1=(r:Int)))=Qe6 r n f:=List.filter_eq_self.mpr λp hp=>by
 obtain⟨c,_,_,rfl⟩:=Qbs.mp hp;exact decide_eq_true rfl
theorem QcW{r k n:Nat}(h:r≠k)(f:Nat->Nat->Bool):(Qe6 r n f).filter (λp=>decide (p.1=(k:Int)))=[]:=Qht.mpr λp hp=>by
 obtain⟨c,_,_,rfl⟩:=Qbs.mp hp;show ¬decide ((r:Int)=(k:Int))=true;rw[decide_eq_false (by omega)];exact Qj
theorem QdQ(w k:Nat)(f:Nat->Nat->Bool):∀h,(YO h w f).filter (λp=>decide (p.1=(k:Int)))=if k<h then Qe6 k w f else[]
 |0=>rfl
 |h+1=>by
  rw[Qao,Qae,QdQ w k f h];by_cases z:k=h
  ·subst z;rw[if_neg (by omega),QcV,if_pos (by omega)];rfl
  ·rw[QcW (λe=>z e.symm),Zn];by_cases z2:k<h
   ·rw[if_pos z2,if_pos (by omega)]
   ·rw[if_neg z2,if_neg (by omega)]
theorem Qop(r n:Nat)(f:Nat->Nat->Bool):(Qe6 r n f).Pairwise plt:=by
 unfold Qe6;refine QtW (R:=λa b=>a<b) _ (λa b hab=>.inr ⟨rfl,by show(a:Int)<b;omega⟩) ?_
 exact ZI _ List.pairwise_lt_range
theorem Qe8(w:Nat)(f:Nat->Nat->Bool):∀h,(YO h w f).Pairwise plt
 |0=>.nil
 |h+1=>by
  rw[Qao];refine YU.mpr ⟨Qe8 w f h,Qop h w f,λp hp q hq=>?_⟩;obtain⟨r,c,hr,_,_,rfl⟩:=QdF.mp hp;obtain⟨c',_,_,rfl⟩:=Qbs.mp hq;exact .inl (by show(r:Int)<h;omega)
theorem QrW{p q:Int×Int}(h:plt p q):p≠q:=λe=>by subst e;rcases h with z | z<;>omega
def QlB(cs:List (Int×Int))(r:Int):List (Int×Int):=cs.filter λp=>decide (p.1=r)
def QmO(cells L:List (Int×Int)):List (List (Int×Int)):=(cells.filter λc => !decide (c.2∈L.map (·.2))).map λc=>L++[c]
def QfI(cs:List (Int×Int)):Nat->List (List (Int×Int))
 |0=>[[]]
 |i+1=>QfI cs i++(QfI cs i).flatMap (QmO (QlB cs i))
theorem QmN(cells L:List (Int×Int)):(QmO cells L).length<=cells.length:=by
 unfold QmO;rw[Qe];exact Zr _ _
theorem Qha{α β:Type}{f:α->List β}{k:Nat}:∀{xs:List α},(∀x∈xs,(f x).length<=k)->(xs.flatMap f).length<=xs.length*k
 |[],_=>Jn _
 |x::xs,h=>by
  have h1:=h x (.head _);have h2:=Qha (xs:=xs) λy hy=>h y (.tail _ hy)
  rw[Qdb,QC,QK,Qis];omega
theorem QgC{cs:List (Int×Int)}{k:Nat}(h:∀r,(QlB cs r).length<=k):∀i,(QfI cs i).length<=(k+1)^i
 |0=>Qk _
 |i+1=>by
  have h1:=QgC h i;have h2:=Qha (xs:=QfI cs i) (k:=k) λL _=>QV (QmN (QlB cs i) L) (h i)
  show(QfI cs i++(QfI cs i).flatMap (QmO (QlB cs i))).length<=_;rw[QC,Nat.pow_succ,Nat.mul_add,Nat.mul_one];have h3:(QfI cs i).length*k<=(k+1)^i*k:=Nat.mul_le_mul_right k h1;omega
theorem Qbt{cells L M:List (Int×Int)}:M∈QmO cells L↔∃c∈cells,c.2∉L.map (·.2)/\M=L++[c]:=by
 unfold QmO;rw[Qs];constructor
 ·rintro⟨c,hc,rfl⟩;have hc:=JE.mp hc;exact⟨c,hc.1,by simpa using hc.2,rfl⟩
 ·rintro⟨c,hc,hn,rfl⟩;exact⟨c,JE.mpr ⟨hc,by simpa using hn⟩,rfl⟩
theorem QiL(cs:List (Int×Int)):∀i,[]∈QfI cs i
 |0=>.head _
 |i+1=>J1.mpr (.inl (QiL cs i))
theorem QpQ(ns:List Int)(i:Int):((ns.map Qf).any λe=>Jh e (.int i))=decide (i∈ns):=by
 rw[Qii,Zo,Qdm,decide_eq_true_iff];constructor
 ·rintro⟨c,hc,h⟩;have:c=i:=by simpa [Jh] using h
  rw[<- this];exact hc
 ·intro h;refine⟨i,h,?_⟩;show(i == i)=true;simp
theorem QfT(w h:Nat)(f:Nat->Nat->Bool)(r:Int):(QlB (YO h w f) r).length<=w:=by
 by_cases z:0<=r
 ·obtain⟨k,rfl⟩:∃k:Nat,r=k:=⟨r.toNat,by omega⟩
  unfold QlB;rw[QdQ];split
  ·exact Qef _ _ _
  ·exact Jn _
 ·have:QlB (YO h w f) r=[]:=Qht.mpr λp hp e=>by
   have:=Qfn hp;have:=of_decide_eq_true e;omega
  rw[this];exact Jn _
def toI:Qa->Int
 |.int i=>i
 |_=>0
theorem Qg5{ds:List Qa}{a b:Int}(h:ds.all (λd=>inW d a b)=true):ds=(ds.map toI).map Qf/\∀i∈ds.map toI,a<=i/\i<=b:=by
 constructor
 ·rw[Je]
  conv=>lhs;rw[<- Qb8 ds]
  refine JW λd hd=>?_
  obtain⟨i,rfl,_⟩:=QsP (Q7.mp h d hd);rfl
 ·intro i hi;obtain⟨d,hd,rfl⟩:=Qs.mp hi;obtain⟨i,rfl,h1,h2⟩:=QsP (Q7.mp h d hd);exact⟨h1,h2⟩
theorem Qec(ns:List Int):(ns.map Qf).map toI=ns:=by
 rw[Je]
 conv=>rhs;rw[<- Qb8 ns]
 rfl
def nfI:List Int->Bool
 |x::y::r=>decide (x<=y)&&nfI (y::r)
 |_=>true
def Qty:Qa->Bool
 |.tuple [.int a,.int b]=>decide (a<=b)
 |_=>false
theorem Qna:∀ns:List Int,(Qk5 (ns.map Qf) (Dl.cutD (ns.map Qf) (some 1) none)).all Qty=nfI ns
 |[]=>by
  have h:(Qk5 ([]:List Qa) (Dl.cutD [] (some 1) none))=[]:=by unfold Qk5;rfl
  rw[Qif,h];rfl
 |[x]=>by rw[ZB,Qs9];rfl
 |x::y::r=>by
  have ih:=Qna (y::r);rw[ZB,Qs9] at ih ⊢;show(Qty (.tuple [.int x,.int y])&&(Qk5 (Qf y::r.map Qf) (r.map Qf)).all Qty)=_;rw[ih];rfl
theorem Qf4:∀{ns:List Int}{a:Int},nfI ns=true->(∀b,ns.getLast? = some b->b<=a)->nfI (ns++[a])=true
 |[],_,_,_=>rfl
 |[x],a,_,h=>by
  show(decide (x<=a)&&true)=true;rw[decide_eq_true (h x rfl)];rfl
 |x::y::r,a,hn,h=>by
  have hn:=QR.mp (show(decide (x<=y)&&nfI (y::r))=true from hn);show(decide (x<=y)&&nfI (y::r++[a]))=true;rw[hn.1,Qf4 hn.2 λb hb=>h b (by rw[List.getLast?_cons_cons];exact hb)];rfl
def Qcu:Qa->Bool
 |.tuple ds=>(decide ((1:Int)<=ds.length)&&decide ((ds.length:Int)<=6))&&(ds.all (λd=>inW d 0 6)&&nfI (ds.map toI))
 |_=>false
structure ZE (ns:List Int):Prop where
 l1:1<=ns.length
 l6:ns.length<=6
 bd:∀i∈ns,0<=i/\i<=6
 nf:nfI ns=true
def tI(ns:List Int):Qa:=.tuple (ns.map Qf)
theorem Qlp{d:Qa}(h:Qcu d=true):∃ns,d=tI ns/\ZE ns:=by
 cases d<;>first | (cases h;done) | skip
 rename_i ds
 have h:=QR.mp (show((decide ((1:Int)<=ds.length)&&decide ((ds.length:Int)<=6))&&(ds.all (λd=>inW d 0 6)&&nfI (ds.map toI)))=true from h);have h1:=QR.mp h.1;have h2:=QR.mp h.2;obtain⟨e,b⟩:=Qg5 h2.1;refine⟨ds.map toI,by rw[tI,<- e],?_,?_,b,h2.2⟩
 ·rw[Qe];have:=of_decide_eq_true h1.1;omega
 ·rw[Qe];have:=of_decide_eq_true h1.2;omega
theorem Qlo{ns:List Int}(h:ZE ns):Qcu (tI ns)=true:=by
 show((decide ((1:Int)<=(ns.map Qf).length)&&decide (((ns.map Qf).length:Int)<=6))&&((ns.map Qf).all (λd=>inW d 0 6)&&nfI ((ns.map Qf).map toI)))=true;have a:=h.l1;have b:=h.l6;have e:(ns.map Qf).all (λd=>inW d 0 6)=true:=Q7.mpr λd hd=>by
  obtain⟨i,hi,rfl⟩:=Qs.mp hd;exact Qpr (h.bd i hi).1 (h.bd i hi).2
 rw[Qe,Qec,h.nf,decide_eq_true (by omega),decide_eq_true (by omega),e];rfl
def sH(ns:List Int):Nat:=(max (ns.getLastD 0) 1).toNat
def stF(ns:List Int):Nat->Nat->Bool:=λr c=>decide ((r:Int)<ns.getD c 0)
def stC(ns:List Int):List (Int×Int):=YO (sH ns) ns.length (stF ns)
def sBd(ns:List Int):Qa:=bdD (sH ns) ns.length (stC ns)
def Qet(L:List (Int×Int))(p:Int×Int):Bool := !(L.any λq=>(decide (q.2=p.2)&&decide (q.1≥p.1))||(decide (q.1=p.1)&&decide (q.2<p.2)))
theorem QsK(L:List (Int×Int))(p:Int×Int):Qet L p=(!(L.any λq=>decide (q.2=p.2)&&decide (q.1≥p.1)) && !(L.any λq=>decide (q.1=p.1)&&decide (q.2<=p.2))):=by
 unfold Qet;rw[<- Bool.not_or]
 congr 1
 induction L with
 |nil=>rfl
 |cons q L ih=>
  rw[Yu,Yu,Yu,ih];have e:((decide (q.2=p.2)&&decide (q.1≥p.1))||(decide (q.1=p.1)&&decide (q.2<p.2)))=((decide (q.2=p.2)&&decide (q.1≥p.1))||(decide (q.1=p.1)&&decide (q.2<=p.2))):=by
   rw[Zo];simp only[Qp1,Jk,decide_eq_true_eq];omega
  rw[e];generalize (decide (q.2=p.2)&&decide (q.1≥p.1))=a;generalize (decide (q.1=p.1)&&decide (q.2<=p.2))=b;generalize (L.any λq=>decide (q.2=p.2)&&decide (q.1≥p.1))=c;generalize (L.any λq=>decide (q.1=p.1)&&decide (q.2<=p.2))=d;cases a<;>cases b<;>cases c<;>cases d<;>rfl
def QjL:DF:=λargs R _=>∃ns:List Int,args=[.v (tI ns)]/\R (.bool (nfI ns))
def QfP:DF:=λargs R _=>∃d,args=[.v d]/\R (.bool (Qcu d))
def Qga:DF:=λargs R _=>∃(L:List (Int×Int))(p:Int×Int),args=[.v (stT L),.v (pairD p)]/\R (.bool (Qet L p))
def Qsz(cs L:List (Int×Int)):Qa:=.tuple ((cs.filter (Qet L)).map pairD)
def QkD:DF:=λargs R _=>∃(h w:Int)(cs L:List (Int×Int)),args=[.v (bdD h w cs),.v (stT L)]/\R (Qsz cs L)
def Qep:DF:=λargs R _=>∃n:Int,args=[.pot,.v (.int n),.v (.int 6)]/\1<=n/\n<=6/\∀ns,ZE ns->R (tI ns)
def Qeq:DF:=λargs R _=>∃ns,args=[.v (tI ns)]/\ZE ns/\R (sBd ns)
def QjV:DF:=λargs R _=>∃(h w:Int)(cs L:List (Int×Int)),args=[.v (bdD h w cs),.v (stT L)]/\L.length<=1000/\cs.length<=1000/\R (Qsz cs L)
theorem QlA{ns:List Int}(h:ZE ns):1<=sH ns/\sH ns<=6:=by
 unfold sH;have:ns.getLastD 0<=6:=by
  cases e:ns.getLast? with
  |none=>rw[Qar,e];decide
  |some b=>rw[Qar,e];exact(h.bd b (YV e)).2
 omega
theorem QfQ{ns:List Int}(h:ZE ns):(stC ns).length<=36:=by
 have a:=Qb6 ns.length (stF ns) (sH ns);have b:sH ns*ns.length<=6*6:=Qtm (QlA h).2 h.l6;unfold stC;omega
theorem Qpv{α β:Type}{g:α->Option β}{p:α->Bool}{k:α->β}:∀{xs:List α},(∀x∈xs,g x=if p x=true then some (k x) else none)->xs.filterMap g=(xs.filter p).map k
 |[],_=>rfl
 |x::xs,h=>by
  have ih:=Qpv (xs:=xs) λy hy=>h y (.tail _ hy)
  by_cases z:p x=true
  ·rw[List.filterMap_cons_some (by rw[h x (.head _),if_pos z]),ih,Ys z];rfl
  ·rw[List.filterMap_cons_none (by rw[h x (.head _),if_neg z]),ih,Yt z]
def QrA(r:Int):Qa->Option Qa
 |.tuple [.int c,.int m]=>if r<m then some (pairD (r,c)) else none
 |_=>none
theorem Qhb(ns:List Int)(r:Nat):(QcY (ns.map Qf)).filterMap (QrA r)=(Qe6 r ns.length (stF ns)).map pairD:=by
 unfold QcY Qe6;rw[Qcn,Qe,Je];refine Qpv λc hc=>?_
 have hc:=JX.mp hc;show QrA r (.tuple [.int c,(ns.map Qf).getD c .none])=_;have e1:(ns.map Qf).getD c .none=.int (ns.getD c 0):=by
  rw[QD,Qv,QD,Qg hc];rfl
 rw[e1];show(if(r:Int)<ns.getD c 0 then some (pairD ((r:Int),(c:Int))) else none)=if decide ((r:Int)<ns.getD c 0)=true then _ else _
 by_cases z:(r:Int)<ns.getD c 0
 ·rw[if_pos z,if_pos (decide_eq_true z)];rfl
 ·rw[if_neg z,if_neg (by simpa using z)]
theorem Qj2{ns:List Int}(h:1<=ns.length):atI (ns.map Qf) (-1)=some (.int (ns.getLastD 0)):=by
 cases e:ns.getLast? with
 |none=>rw[Qas] at e;subst e;exact absurd h (by decide)
 |some b=>
  obtain⟨xs,rfl⟩:=QfF.mp e;rw[Jf,Qar,e];exact Qho _ _
@[irreducible] def QmA:List Qa->(Qa->Prop)->Prop:=Qpk
@[irreducible] def Qmz:List Qa->(Qa->Prop)->Prop:=Qpj
theorem Qbz:QaA (λxs H Q=>∃i j,xs=[.int i,.int j]/\Q (.int (if j > i then j else i)) H) QmA:=by unfold QmA;exact QkI
theorem QmT:QaA (λxs H Q=>∃i j,xs=[.int i,.int j]/\Q (.int (if j<i then j else i)) H) Qmz:=by unfold Qmz;exact QkH
theorem QcN{i j k:Int}{Q:Qa->Prop}(e:(if j > i then j else i)=k)(h:Q (.int k)):QmA [.int i,.int j] Q:=by
 unfold QmA;show Q (.int (if j > i then j else i));rw[e];exact h
theorem Qeo{i j k:Int}{Q:Qa->Prop}(e:(if j<i then j else i)=k)(h:Q (.int k)):Qmz [.int i,.int j] Q:=by
 unfold Qmz;show Q (.int (if j<i then j else i));rw[e];exact h
def Qoe(ns:List Int):Qa->List Qa
 |.int r=>(Qe6 r.toNat ns.length (stF ns)).map pairD
 |_=>[]
theorem QgI(ns:List Int)(h:Nat):(QlC 0 h).flatMap (Qoe ns)=(YO h ns.length (stF ns)).map pairD:=by
 unfold QlC YO;rw[Qn1,QnZ]
 congr 1
 funext r
 show(Qe6 (0+(r:Int)).toNat ns.length (stF ns)).map pairD=_;rw[show(0+(r:Int)).toNat=r by omega]
theorem Que{ns:List Int}:(if(1:Int) > ns.getLastD 0 then 1 else ns.getLastD 0)=(sH ns:Int):=by
 unfold sH;split<;>omega
theorem Qrz{ns:List Int}:(if ns.getLastD 0 > 1 then ns.getLastD 0 else(1:Int))=(sH ns:Int):=by
 unfold sH;split<;>omega
theorem Qcw(g:Int×Int->Bool)(cs:List (Int×Int)):(cs.map pairD).filterMap (λd=>if g (toP d)=true then some d else none)=(cs.filter g).map pairD:=by
 rw[Qcn];exact Qpv (p:=g) (k:=pairD) λp _=>rfl
theorem Qpx(xs:List Qa):Jh (.list xs) (.list [])=xs.isEmpty:=by
 cases xs<;>rfl
theorem Qb4(g:Int×Int->Bool):∀L:List (Int×Int),(L.filter g).isEmpty = !(L.any g)
 |[]=>rfl
 |p::L=>by
  cases e:g p with
  |true=>rw[Ys e,Yu,e];rfl
  |false=>rw[Yt (by rw[e];exact Qj),Yu,e,Qb4 g L];rfl
theorem Qpz{α:Type}(a b:List α):(a++b).isEmpty=(a.isEmpty&&b.isEmpty):=by cases a<;>rfl
theorem QmG(L:List (Int×Int))(p:Int×Int):(L.filter (λq=>decide (q.2=p.2)&&decide (q.1≥p.1))++L.filter (λq=>decide (q.1=p.1)&&decide (q.2<=p.2))).isEmpty=Qet L p:=by
 rw[QsK,Qpz,Qb4,Qb4]
theorem Qpy(L:List (Int×Int)):(L.map pairD).isEmpty=L.isEmpty:=by cases L<;>rfl
theorem QkB{items:List Qa}{wg wg2:DG}{wt wt2:DT}{wi2:DI}{we:DE}{δ:Sts}{Q:Qa->Prop}(G:Qa->List Qa)(k:Nat)(hl:(items.flatMap G).length<=k)
  (h:∀d∈items,∀(acc:List Qa)(N:List Qa->Prop),acc.length+(G d).length<=k->N (acc++G d)->wg d δ λδ4=>wt δ4 (λb=>if b=true then wi2 δ4 (λitems2=>InR items2 wg2 wt2 we δ4 acc N) XF else N acc) XF)(q:Q (.list (items.flatMap G))) :
  Qhp items wg wt wi2 wg2 wt2 we δ Q:=by
 unfold Qhp;refine⟨λi acc=>acc=(items.take i).flatMap G,by simp,λi acc d hd e=>?_,λacc e=>by rw[e,JF];exact q⟩;have e:acc=(items.take i).flatMap G:=e;have hs:(items.take (i+1)).flatMap G=(items.take i).flatMap G++G d:=by
  rw[JH,hd,Ym];simp
 refine h d (Qt hd) acc _ ?_ (by show acc++G d=_;rw[hs,e])
 have h1:(items.flatMap G).length=((items.take (i+1)).flatMap G).length+((items.drop (i+1)).flatMap G).length:=by
  rw[<- QC,<- Ym,Qid]
 rw[hs,<- e,QC] at h1;omega
end Rk
namespace L2
section
variable{X:Cx}
end
end L2
namespace Dl
open L2 _root_.Rd Rk
end Dl
namespace Rv
section
variable{prog:QF}{w:Q9}{A:Q6}{E:Value->Shared->Prop}{s:Shared}
end
end Rv
namespace L2
section
variable{X:Cx}{tg:QM}
end
section
variable{X:Cx}
end
end L2
namespace Dl
open L2 _root_.Rd Rk
section
variable{X:Cx}{E:XK}{st:ZH}{i:Nat}{we:DE}
end
end Dl
namespace Rk
open L2 _root_.Rd Dl Rt
theorem QdN{α β:Type}{f g:α->List β}:∀{xs:List α},(∀x∈xs,f x=g x)->xs.flatMap f=xs.flatMap g
 |[],_=>rfl
 |x::xs,h=>by rw[Qdb,Qdb,h x (.head _),QdN λy hy=>h y (.tail _ hy)]
def Bds(h w:Nat)(cs:List (Int×Int)):Prop:=h<=6/\w<=6/\∀p∈cs,0<=p.1/\p.1<h/\0<=p.2/\p.2<w
def QjZ:List (Int×Int)->List (Int×Int)->Prop
 |[],[]=>False
 |[],_::_=>True
 |_::_,[]=>False
 |p::L,q::M=>plt p q∨(p=q/\QjZ L M)
theorem QmS(p q:Int×Int):QaW (pairD p) (pairD q)=if plt p q then .lt else if p=q then .eq else .gt:=by
 obtain⟨a,b⟩:=p;obtain⟨c,d⟩:=q;show thn (QeO a c) (thn (QeO b d) .eq)=_;unfold QeO;by_cases h1:a<c
 ·rw[if_pos h1,if_pos (show plt (a,b) (c,d) from QZ h1)];rfl
 ·rw[if_neg h1];by_cases h2:a=c
  ·subst h2;rw[if_pos rfl];by_cases h3:b<d
   ·rw[if_pos h3,if_pos (show plt (a,b) (a,d) from QU ⟨rfl,h3⟩)];rfl
   ·have hn:¬plt (a,b) (a,d):=λz=>by
     have z:a<a∨(a=a/\b<d):=z;omega
    rw[if_neg h3,if_neg hn];by_cases h4:b=d
    ·subst h4;rw[if_pos rfl,if_pos rfl];rfl
    ·rw[if_neg h4,if_neg (λe=>h4 (Qhs e).2)];rfl
  ·have hn:¬plt (a,b) (c,d):=λz=>by
    have z:a<c∨(a=c/\b<d):=z;omega
   rw[if_neg h2,if_neg hn,if_neg (λe=>h2 (Qhs e).1)];rfl
theorem QjS:∀L M:List (Int×Int),ltD (stT L) (stT M)=true↔QjZ L M
 |[],[]=>by
  constructor
  ·intro h;cases h
  ·intro h;exact h.elim
 |[],_::_=>⟨λ_=>trivial,λ_=>rfl⟩
 |_::_,[]=>by
  constructor
  ·intro h;cases h
  ·intro h;exact h.elim
 |p::L,q::M=>by
  have ih:=QjS L M;show isL (thn (QaW (pairD p) (pairD q)) (Qan (L.map pairD) (M.map pairD)))=true↔_;have ih:isL (Qan (L.map pairD) (M.map pairD))=true↔QjZ L M:=ih;rw[QmS];by_cases z:plt p q
  ·rw[if_pos z];exact⟨λ_=>.inl z,λ_=>rfl⟩
  ·rw[if_neg z];by_cases y:p=q
   ·rw[if_pos y];show isL (Qan (L.map pairD) (M.map pairD))=true↔_;rw[ih];exact⟨λh=>.inr ⟨y,h⟩,λh=>h.elim (λe=>absurd e z) λe=>e.2⟩
   ·rw[if_neg y];constructor
    ·intro h;cases h
    ·rintro(h | h)
     ·exact absurd h z
     ·exact absurd h.1 y
theorem QjX:∀L:List (Int×Int),¬QjZ L L
 |[],h=>h
 |p::L,h=>by
  rcases h with z | z
  ·rcases z with z | z<;>omega
  ·exact QjX L z.2
theorem QjY:∀{S T:List (Int×Int)}(c d:Int×Int),S.length=T.length->QjZ S T->QjZ (S++[c]) (T++[d])
 |[],[],_,_,_,h=>h.elim
 |[],_::_,_,_,e,_=>by cases e
 |_::_,[],_,_,e,_=>by cases e
 |p::S,q::T,c,d,e,h=>by
  rcases h with z | z
  ·exact .inl z
  ·exact .inr ⟨z.1,QjY c d (by simpa using e) z.2⟩
theorem Qg2:∀(S:List (Int×Int)){c d:Int×Int},plt c d->QjZ (S++[c]) (S++[d])
 |[],c,d,h=>.inl h
 |p::S,c,d,h=>.inr ⟨rfl,Qg2 S h⟩
def rbI(S:List (Int×Int)):Int:=match S.getLast? with
 |some c=>c.1+1
 |none=>0
def fol(cs S:List (Int×Int)):List (Int×Int):=cs.filter λc=>decide (rbI S<=c.1) && !decide (c.2∈S.map (·.2))
def evS(cs:List (Int×Int)):Nat->List (List (Int×Int))
 |0=>[[]]
 |k+1=>(evS cs k).flatMap λS=>(fol cs S).map λc=>S++[c]
structure Std (cs L:List (Int×Int)):Prop where
 sub:∀p∈L,p∈cs
 rows:L.Pairwise λp q=>p.1<q.1
 cols:(L.map (·.2)).Nodup
theorem Std.nil{cs:List (Int×Int)}:Std cs []:=⟨λp hp=>(nomatch hp),.nil,.nil⟩
theorem Std.init{cs S:List (Int×Int)}{c:Int×Int}(h:Std cs (S++[c])):Std cs S/\c∈cs/\(∀p∈S,p.1<c.1)/\c.2∉S.map (·.2):=by
 have r:=YU.mp h.rows;have k:=h.cols;rw[Jf] at k;have k:=Qda.mp k;refine⟨⟨λp hp=>h.sub p (QbD _ hp),r.1,k.1⟩,h.sub c (by simp),λp hp=>r.2.2 p hp c (by simp),λz=>?_⟩;exact k.2.2 c.2 z c.2 (by simp) rfl
theorem Std.snoc{cs S:List (Int×Int)}{c:Int×Int}(h:Std cs S)(h1:c∈cs)(h2:∀p∈S,p.1<c.1)(h3:c.2∉S.map (·.2)):Std cs (S++[c]):=by
 refine⟨λp hp=>?_,YU.mpr ⟨h.rows,by simp,λp hp q hq=>?_⟩,?_⟩
 ·rcases J1.mp hp with z | z
  ·exact h.sub p z
  ·rw[Q0.mp z];exact h1
 ·rw[Q0.mp hq];exact h2 p hp
 ·rw[Jf];refine Qda.mpr ⟨h.cols,by simp,λa ha b hb e=>?_⟩;have hb:b=c.2:=by simpa using hb
  rw[e,hb] at ha;exact h3 ha
theorem Qg3{S:List (Int×Int)}(h:S.Pairwise λp q=>p.1<q.1){c:Int×Int}:(∀p∈S,p.1<c.1)∨¬rbI S<=c.1∨(S=[] ):=by
 by_cases z:S=[]
 ·exact .inr (.inr z)
 ·by_cases y:rbI S<=c.1
  ·refine .inl λp hp=>?_
   obtain⟨T,d,rfl⟩:∃T d,S=T++[d]:=⟨S.dropLast,S.getLast z,(YW z).symm⟩
   have y:d.1+1<=c.1:=by unfold rbI at y;rw[QbE] at y;simpa using y
   rcases J1.mp hp with q | q
   ·have:=(YU.mp h).2.2 p q d (by simp);omega
   ·rw[Q0.mp q];omega
  ·exact .inr (.inl y)
theorem Quh{S:List (Int×Int)}{c:Int×Int}(h:∀p∈S,p.1<c.1)(h0:0<=c.1):rbI S<=c.1:=by
 unfold rbI;cases e:S.getLast? with
 |none=>exact h0
 |some d=>
  have:=h d (YV e);show d.1+1<=c.1;omega
theorem Qbu{cs:List (Int×Int)}(h0:∀p∈cs,0<=p.1):∀(k:Nat)(L:List (Int×Int)),L∈evS cs k↔Std cs L/\L.length=k
 |0,L=>by
  constructor
  ·intro h;rw[Q0.mp h];exact⟨.nil,rfl⟩
  ·rintro⟨_,h⟩;cases L with
   |nil=>exact .head _
   |cons a b=>cases h
 |k+1,L=>by
  show L∈(evS cs k).flatMap (λS=>(fol cs S).map λc=>S++[c])↔_;rw[QaZ];constructor
  ·rintro⟨S,hS,hL⟩;obtain⟨c,hc,rfl⟩:=Qs.mp hL;obtain⟨st,hl⟩:=(Qbu h0 k S).mp hS;have hc:=JE.mp hc;have hc2:=QR.mp hc.2;refine⟨st.snoc hc.1 ?_ (by simpa using hc2.2),by rw[QC,hl];rfl⟩;rcases Qg3 st.rows (c:=c) with z | z | z
   ·exact z
   ·exact absurd (of_decide_eq_true hc2.1) z
   ·rw[z];exact λp hp=>(nomatch hp)
  ·rintro⟨st,hl⟩;have hne:L≠[]:=λe=>by rw[e] at hl;cases hl
   obtain⟨S,c,rfl⟩:∃T d,L=T++[d]:=⟨L.dropLast,L.getLast hne,(YW hne).symm⟩
   obtain⟨s1,s2,s3,s4⟩:=st.init;refine⟨S,(Qbu h0 k S).mpr ⟨s1,by rw[QC] at hl;exact Nat.succ.inj hl⟩,Qs.mpr ⟨c,JE.mpr ⟨s2,?_⟩,rfl⟩⟩;rw[Jk];exact⟨decide_eq_true (Quh s3 (h0 c s2)),by simpa using s4⟩
theorem QcX{cs:List (Int×Int)}(hp:cs.Pairwise plt)(h0:∀p∈cs,0<=p.1):∀k,(evS cs k).Pairwise QjZ
 |0=>Qgw _ _
 |k+1=>by
  show((evS cs k).flatMap λS=>(fol cs S).map λc=>S++[c]).Pairwise QjZ;rw[Qie];refine⟨λS _=>?_,?_⟩
  ·exact Qm5.mpr ((ZI _ hp).imp λh=>Qg2 S h)
  ·refine QtX (λ{S T} hS hT h=>?_) (QcX hp h0 k);intro x hx y hy;obtain⟨c,_,rfl⟩:=Qs.mp hx;obtain⟨d,_,rfl⟩:=Qs.mp hy;exact QjY c d (by rw[((Qbu h0 k S).mp hS).2,((Qbu h0 k T).mp hT).2]) h
theorem QbW{cs:List (Int×Int)}(h0:∀p∈cs,0<=p.1):∀(i:Nat)(L:List (Int×Int)),L∈QfI cs i↔Std cs L/\∀p∈L,p.1<(i:Int)
 |0,L=>by
  constructor
  ·intro h;rw[Q0.mp h];exact⟨.nil,λp hp=>(nomatch hp)⟩
  ·rintro⟨s,h⟩;cases L with
   |nil=>exact .head _
   |cons a b=>
    have h1:=h a (.head _);have h2:=h0 a (s.sub a (.head _));exact absurd h1 (by show ¬a.1<0;omega)
 |i+1,L=>by
  show L∈QfI cs i++(QfI cs i).flatMap (QmO (QlB cs i))↔_;rw[J1,QaZ];constructor
  ·rintro(h | ⟨S,hS,hL⟩)
   ·obtain⟨a,b⟩:=(QbW h0 i L).mp h;exact⟨a,λp hp=>by have:=b p hp;omega⟩
   ·obtain⟨c,hc,hn,rfl⟩:=Qbt.mp hL;obtain⟨a,b⟩:=(QbW h0 i S).mp hS;have hc:=JE.mp hc;have hr:c.1=(i:Int):=of_decide_eq_true hc.2;refine⟨a.snoc hc.1 (λp hp=>by rw[hr];exact b p hp) hn,λp hp=>?_⟩;rcases J1.mp hp with z | z
    ·have:=b p z;omega
    ·rw[Q0.mp z,hr];omega
  ·rintro⟨s,h⟩;by_cases z:L=[]
   ·left
    rw[z];exact QiL cs i
   ·obtain⟨S,c,rfl⟩:∃T d,L=T++[d]:=⟨L.dropLast,L.getLast z,(YW z).symm⟩
    obtain⟨s1,s2,s3,s4⟩:=s.init;have hc:=h c (by simp);by_cases y:c.1=(i:Int)
    ·right
     exact⟨S,(QbW h0 i S).mpr ⟨s1,λp hp=>by have:=s3 p hp;omega⟩,Qbt.mpr ⟨c,JE.mpr ⟨s2,decide_eq_true y⟩,s4,rfl⟩⟩
    ·left
     refine(QbW h0 i _).mpr ⟨s,λp hp=>?_⟩;rcases J1.mp hp with q | q
     ·have:=s3 p q;omega
     ·rw[Q0.mp q];omega
theorem Qnf{cs:List (Int×Int)}(nd:cs.Nodup)(h0:∀p∈cs,0<=p.1):∀i,(QfI cs i).Nodup
 |0=>by show[([]:List (Int×Int))].Nodup;simp
 |i+1=>by
  have ih:=Qnf nd h0 i;show(QfI cs i++(QfI cs i).flatMap (QmO (QlB cs i))).Nodup;refine Qda.mpr ⟨ih,?_,λL hL M hM e=>?_⟩
  ·show List.Pairwise _ _;rw[Qie];refine⟨λS _=>?_,ih.imp λ{S T} hne x hx y hy e=>?_⟩
   ·unfold QmO;refine Qm5.mpr ((ZI _ (ZI _ nd)).imp λ{c d} hne e=>hne ?_);have:=List.append_inj_right' e rfl
    simpa using this
   ·obtain⟨c,_,_,rfl⟩:=Qbt.mp hx;obtain⟨d,_,_,rfl⟩:=Qbt.mp hy;exact hne (List.append_inj_left' e rfl)
  ·obtain⟨S,hS,hM⟩:=QaZ.mp hM;obtain⟨c,hc,_,rfl⟩:=Qbt.mp hM;have hr:c.1=(i:Int):=of_decide_eq_true (JE.mp hc).2;have:=((QbW h0 i L).mp hL).2 c (by rw[e];simp);omega
end Rk
namespace Dl
open L2 _root_.Rd Rk
section
variable{X:Cx}{E:XK}{st:ZH}{we:DE}
end
end Dl
namespace Rk
open L2 _root_.Rd Dl Rt
structure GB (h w:Nat) (cs:List (Int×Int)):Prop where
 bds:Bds h w cs
 srt:cs.Pairwise plt
 few:(QfI cs h).length<=200000
theorem GB.r0{h w:Nat}{cs:List (Int×Int)}(g:GB h w cs):∀p∈cs,0<=p.1:=λp hp=>(g.bds.2.2 p hp).1
theorem GB.rh{h w:Nat}{cs:List (Int×Int)}(g:GB h w cs):∀p∈cs,p.1<(h:Int):=λp hp=>(g.bds.2.2 p hp).2.1
theorem Qpw{h w:Nat}{cs:List (Int×Int)}(g:GB h w cs)(k:Nat):(evS cs k).Perm ((QfI cs h).filter λL=>L.length == k):=by
 have nd:=Qnf (g.srt.imp QrW) g.r0 h;have s2:=QcX g.srt g.r0 k;have n2:(evS cs k).Nodup:=QtY (R:=QjZ) (S:=λa b=>a≠b) (λ{S T} z (e:S=T)=>QjX S (by rw[<- e] at z;exact z)) s2;refine(List.perm_ext_iff_of_nodup n2 (ZI _ nd)).mpr λL=>?_
 rw[JE,Qbu g.r0,QbW g.r0];constructor
 ·rintro⟨a,b⟩;exact⟨⟨a,λp hp=>g.rh p (a.sub p hp)⟩,by simpa using b⟩
 ·rintro⟨⟨a,_⟩,b⟩;exact⟨a,by simpa using b⟩
theorem QnD{h w:Nat}{cs:List (Int×Int)}(g:GB h w cs)(k:Nat):(evS cs k).length<=200000:=by
 rw[(Qpw g k).length_eq];exact QV (Zr _ _) g.few
def stL:Qa->List (Int×Int)
 |.tuple ds=>ds.map toP
 |_=>[]
theorem Qrt(L:List (Int×Int)):stL (stT L)=L:=Qjq L
def Qod:DF:=λargs R _=>∃S:List (Int×Int),args=[.v (stT S)]/\R (.int (rbI S))
def QuN:DF:=λargs R _=>∃(h w:Nat)(cs S:List (Int×Int)),args=[.v (bdD h w cs),.v (stT S)]/\R (.list ((fol cs S).map pairD))
def evD:DF:=λargs R _=>∃(h w:Nat)(cs:List (Int×Int))(k:Nat),args=[.v (bdD h w cs),.v (.int k)]/\GB h w cs/\k<=6/\R (.list ((evS cs k).map stT))
theorem Qj1{S:List (Int×Int)}{c:Int×Int}(h:S.getLast? = some c):atI (S.map pairD) (-1)=some (pairD c):=by
 obtain⟨xs,rfl⟩:=QfF.mp h;rw[Jf];exact Qho _ _
def evG(cs:List (Int×Int))(d:Qa):List Qa:=(fol cs (stL d)).map λc=>stT (stL d++[c])
theorem Qki(cs:List (Int×Int))(k:Nat):((evS cs k).map stT).flatMap (evG cs)=(evS cs (k+1)).map stT:=by
 show _=((evS cs k).flatMap λS=>(fol cs S).map λc=>S++[c]).map stT;rw[Qn1,QnZ];refine QdN λS _=>?_
 unfold evG;rw[Qrt,Je];rfl
end Rk
namespace L2
section
variable{X:Cx}
def QrB(K:PySem.W.Frag):List V->Hp->VK->Prop:=λxs H Q=>∃(p:Addr)(ns:List Int),xs=[.ref p]/\SqT K H p (ns.map V.int)/\Q (.int ns.sum) H
theorem Qfp(hc:X.calm=true):CallR X (.builtin "sum") (QrB X.K):=by
 intro pins s σ H xs us Q I r h;obtain⟨p,ns,rfl,hp,q⟩:=h;obtain⟨u,rfl,ru⟩:=vals1 r;cases ru;obtain⟨its,rv,pl,hz⟩:=I.tuple hp;have hl:s.heap.IsTuple p its.toArray:=pl;have hi:YH its ns:=intsAre_of rv;obtain⟨ys,hx⟩:=hi.allInts.items;have hlt:p<s.heap.objs.size:=by obtain⟨_,e,_⟩:=hl;exact Qi e
 refine call_sum_walkG (Zu hl ?_);refine⟨s.heap.objs.size,[s.heap.objs.size,p],[s.heap.objs.size],its.toArray.size,_,_,numAt ys,rfl,Walks.tuple (A:=X.A.in1) (I.ok.hd hc) _ p (Qu hlt) its.toArray,⟨⟨_,Qp _ rfl,rfl,rfl⟩,?_⟩,?_,?_,λh' tk t' hk=>?_⟩
 ·obtain⟨o,e,r⟩:=hl;exact⟨o,Qd _ e,r⟩
 ·intro b hb;have:(s.heap.push { cls:=.type "tuple_iterator",data:=.fields #[.ref p,.int 0 0] }).objs.size=s.heap.objs.size+1:=by simp[Heap.push]
  show b<(s.heap.push { cls:=.type "tuple_iterator",data:=.fields #[.ref p,.int 0 0] }).objs.size;rw[this];rcases Qy.mp hb with e | e
  ·rw[e];exact YT _
  ·rw[Q0.mp e];exact QaD hlt
 ·intro i v hv;rw[hx] at hv;exact intItems_at hv
 ·have e1:ns=ys.toList.map (·.1):=by
   rw[<- nums_intItems,<- hx];exact(show numsOf its.toArray.toList=ns from hi.numsOf).symm
  have e2:preSum (numAt ys) its.toArray.size=ns.sum:=by
   have:its.toArray.size=ys.size:=by rw[hx];simp[intItems]
   rw[this,preSum_eq,List.take_of_length_le (by simp),e1]
  rw[e2];exact⟨.int _,H,I.kept (Qhu hk),⟨_,rfl⟩,q⟩
end
end L2
namespace Dl
open L2 _root_.Rd Rk Rt
@[irreducible] def Qln:List Qa->(Qa->Prop)->Prop
 |[.tuple ds],Q=>∃ns,YZ ds=some ns/\Q (.int ns.sum)
 |_,_=>False
theorem QkF{K:PySem.W.Frag}:QaA (QrB K) Qln:=λA P H vs ds R Q ln dm q h k=>by
 unfold Qln at h;split at h
 ·obtain⟨v,rfl,hv⟩:=pd1 q;obtain⟨bs,hb,hR⟩:=h;rw[Qbb hb] at hv;obtain⟨l,xs,rfl,e,qq⟩:=hv.tuple;rw[Qal qq] at e;exact⟨l,bs,rfl,SqT.of e,k _ hR _ H (Same.refl H) (.int _) ZT⟩
 ·exact h.elim
theorem QiK{ds:List Qa}{Q:Qa->Prop}(ns:List Int)(h:ds=[.tuple (ns.map Qf)])(q:Q (.int ns.sum)):Qln ds Q:=by
 subst h;unfold Qln;exact⟨ns,ints_map ns,q⟩
def gtT:Qa->Qa->(Qa->Prop)->Prop
 |.tuple a,.tuple b,Q=>∃ns ms,YZ a=some ns/\YZ b=some ms/\Q (.bool (HT.lexLt ms ns))
 |_,_,_=>False
theorem Qsu{K:PySem.W.Frag}{u:Nat}(hu:u+60<cLine):OpD (Qva u K) gtT:=λA P H x y d1 d2 R Q ln dm hx hy h k=>by
 unfold gtT at h;split at h
 ·obtain⟨ns,ms,ha,hb,hR⟩:=h;rw[Qbb ha] at hx;rw[Qbb hb] at hy;obtain⟨l,xs,rfl,e,qq⟩:=hx.tuple;obtain⟨l2,ys,rfl,e2,qq2⟩:=hy.tuple;rw[Qal qq] at e;rw[Qal qq2] at e2;exact⟨l,l2,ns,ms,rfl,rfl,SqT.of e,SqT.of e2,by omega,k _ hR _ H (Same.refl H) (.bl _) Yj⟩
 ·exact h.elim
theorem Qps{p q:Int×Int}{Q:Qa->Prop}(h:Q (.bool (decide (plt q p)))):gtT (pairD p) (pairD q) Q:=by
 refine⟨[p.1,p.2],[q.1,q.2],rfl,rfl,?_⟩;have e:HT.lexLt [q.1,q.2] [p.1,p.2]=decide (plt q p):=by
  rw[Zo,HT.QbX,decide_eq_true_eq];by_cases z:q.1=p.1
  ·rw[if_pos z,HT.QbX];by_cases y:q.2=p.2
   ·rw[if_pos y,HT.Qbv];constructor
    ·intro h;cases h
    ·rintro(h | h)<;>omega
   ·rw[if_neg y,decide_eq_true_eq];constructor
    ·intro h;exact .inr ⟨z,h⟩
    ·rintro(h | h)<;>omega
  ·rw[if_neg z,decide_eq_true_eq];constructor
   ·intro h;exact .inl h
   ·rintro(h | h)<;>omega
 rw[e];exact h
end Dl
namespace L2
open Sem (wp)
open Builtin
section
variable{X:Cx}
end
end L2
namespace Dl
open L2 _root_.Rd Rk Rt
end Dl
namespace Rk
open L2 _root_.Rd Dl Rt
theorem getD_mem{ns:List Int}{c:Nat}(h:c<ns.length):ns.getD c 0∈ns:=by
 rw[QD,Qg h];exact Qa1 h
def dn1(n:Int):Int:=if n - 1 > 0 then n - 1 else 0
theorem QpB{a b:Int}(h:a<=b):dn1 a<=dn1 b:=by unfold dn1;split<;>split<;>omega
theorem Qny:∀{ns:List Int},nfI ns=true->nfI (ns.map dn1)=true
 |[],_=>rfl
 |[_],_=>rfl
 |a::b::r,h=>by
  have h:=QR.mp (show(decide (a<=b)&&nfI (b::r))=true from h);show(decide (dn1 a<=dn1 b)&&nfI ((b::r).map dn1))=true;rw[decide_eq_true (QpB (of_decide_eq_true h.1)),Qny h.2];rfl
theorem Qe4{ns:List Int}(h:ZE ns):ZE (ns.map dn1):=by
 refine⟨by rw[Qe];exact h.l1,by rw[Qe];exact h.l6,λi hi=>?_,Qny h.nf⟩;obtain⟨n,hn,rfl⟩:=Qs.mp hi;have:=h.bd n hn;unfold dn1;split<;>omega
theorem QiJ:∀{ns:List Int},(∀i∈ns,0<=i)->0<=ns.sum
 |[],_=>QeT _
 |x::ns,h=>by
  have:=QiJ (ns:=ns) λi hi=>h i (.tail _ hi)
  have:=h x (.head _);rw[Qgv];omega
theorem Qne:∀{ns:List Int},(∀i∈ns,0<=i)->(ns.map dn1).sum<=ns.sum/\(0<ns.sum->(ns.map dn1).sum<ns.sum)
 |[],_=>⟨QeT _,λh=>absurd h (by decide)⟩
 |x::ns,h=>by
  obtain⟨a,b⟩:=Qne (ns:=ns) λi hi=>h i (.tail _ hi)
  have h0:=h x (.head _);rw[ZB,Qgv,Qgv];have hx:dn1 x<=x/\(0<x->dn1 x<x):=by unfold dn1;split<;>omega
  refine⟨by omega,λhp=>?_⟩;by_cases z:0<x
  ·have:=hx.2 z;omega
  ·have:=b (by omega);omega
theorem QcS{ns:List Int}(h:ZE ns):GB (sH ns) ns.length (stC ns):=by
 have a:=QlA h;have b:=h.l6;refine⟨⟨a.2,b,λp hp=>Qfn hp⟩,Qe8 ns.length (stF ns) (sH ns),QV (QgC (λr=>QfT ns.length (sH ns) (stF ns) r) (sH ns)) ?_⟩;have c:(ns.length+1)^sH ns<=7^sH ns:=Nat.pow_le_pow_left (by omega) _;have d:7^sH ns<=7^6:=Nat.pow_le_pow_right (by decide) a.2;have e:(7:Nat)^6=117649:=rfl;omega
def lnx(S:List (Int×Int))(c:Int×Int):Bool:=(S.all λq => !decide (c.1=q.1) && !decide (c.2=q.2))&&(match S.getLast? with | some d=>decide (plt d c) | none=>true)
theorem Qpl{cs S:List (Int×Int)}(h0:∀p∈cs,0<=p.1)(st:S.Pairwise λp q=>p.1<q.1):cs.filter (lnx S)=fol cs S:=by
 unfold fol;refine List.filter_congr λc hc=>?_
 rw[Zo];unfold lnx;rw[Jk,Jk,Q7,decide_eq_true_eq,Qdd,decide_eq_false_iff_not];constructor
 ·rintro⟨h1,h2⟩;have k2:c.2∉S.map (·.2):=λz=>by
   obtain⟨q,hq,e⟩:=Qs.mp z;have:=h1 q hq;simp at this;exact this.2 e.symm
  refine⟨?_,k2⟩;unfold rbI;cases e:S.getLast? with
  |none=>exact h0 c hc
  |some d=>
   rw[e] at h2;have h2:plt d c:=of_decide_eq_true h2;have h3:=h1 d (YV e);simp at h3;show d.1+1<=c.1;rcases h2 with z | z<;>omega
 ·rintro⟨h1,h2⟩;have hr:∀p∈S,p.1<c.1:=by
   rcases Qg3 st (c:=c) with z | z | z
   ·exact z
   ·exact absurd h1 z
   ·rw[z];exact λp hp=>(nomatch hp)
  refine⟨λq hq=>?_,?_⟩
  ·have:=hr q hq;have h4:c.2≠q.2:=λe=>h2 (Qs.mpr ⟨q,hq,e.symm⟩)
   rw[Jk,Qdd,Qdd,decide_eq_false_iff_not,decide_eq_false_iff_not];exact⟨by omega,h4⟩
  ·cases e:S.getLast? with
   |none=>rfl
   |some d=>exact decide_eq_true (.inl (hr d (YV e)))
def wt(cs L:List (Int×Int)):Nat:=(cs.filter (Qet L)).length
def Qi2:DF:=λargs R _=>∃ns,args=[.v (tI ns)]/\ZE ns/\R .none
def Quc:DF:=λargs R _=>∃ns,args=[.v (tI ns)]/\ZE ns/\R (sBd ns)
def QlD:DF:=λargs R _=>∃ns,args=[.v (tI ns)]/\ZE ns/\ns.sum<=20/\R .none
def Qof:DF:=λargs R _=>∃(ns:List Int)(k:Nat),args=[.v (tI ns),.v (.int k)]/\k<=ns.length/\R .none
def wtD:DF:=λargs R _=>∃(h w:Int)(cs L:List (Int×Int)),args=[.v (bdD h w cs),.v (stT L)]/\R (.int (wt cs L))
def lev:DF:=λargs R _=>∃(h w:Nat)(cs:List (Int×Int))(k:Nat),args=[.v (bdD h w cs),.v (.int k)]/\GB h w cs/\k<=6/\R (.list ((evS cs k).map stT))
end Rk
namespace Dl
open L2 _root_.Rd Rk
@[irreducible] def QtD(t:DT)(wb:DS)(D:Qc9)(δ:Sts):Prop:=∃Iv:Nat->Sts->Prop,(∃m,Iv m δ)/\∀m δ,Iv m δ->t δ (λb=>if b=true then wb { D with nx:=λδ'=>∃m',m'<m/\Iv m' δ',ct:=λδ'=>∃m',m'<m/\Iv m' δ',bk:=D.nx } δ else D.nx δ) D.ex
def Qks(t:DT)(wb:DS):DS:=λD δ=>QtD t wb D δ
section
variable{X:Cx}{E:XK}
theorem Qji{c:QM}{body:List ZH}{pos:Pos}{t:DT}{wb:DS}(hp:Qd2 (model X.prog X.w) X.A X.env X.xe)(hc:PT X c (tT X.K E t))(hb:PSs X body (tS X.K E wb)):PS X (.While c body [] pos) (tS X.K E (Qks t wb)):=by
 refine PS.imp (QlM hp hc hb) λD σ H ⟨F,δ,DD,rel,hw,en⟩=>?_
 unfold Qks QtD at hw;obtain⟨Iv,⟨m0,i0⟩,step⟩:=hw;refine⟨λm σ' H'=>∃δ',Iv m δ'/\Rel X.K F σ' H' δ'/\Stp F σ H δ σ' H' δ',⟨m0,δ,i0,rel,Stp.refl⟩,?_⟩;rintro m σ' H' ⟨δ',iv,r',st'⟩;refine⟨F,δ',_,DD.ex,r',step m δ' iv,λb hb H1 rel1 kp1=>?_,en.ex⟩;have st1:Stp F σ H δ σ' H1 δ':=st'.trans (Stp.kp kp1);cases b with
 |true=>
  rw[if_pos rfl] at hb;show if true=true then _ else _
  rw[if_pos rfl];refine⟨λσ2 H2=>∃δ2,(∃m',m'<m/\Iv m' δ2)/\Rel X.K F σ2 H2 δ2/\Stp F σ H δ σ2 H2 δ2,λσ2 H2 ⟨δ2,⟨m',hm,h2⟩,r2,s2⟩=>⟨m',hm,δ2,h2,r2,s2⟩,F,δ',_,rel1,hb,?_⟩;exact⟨⟨λδ6 h6 σ6 H6 r6 s6=>⟨δ6,h6,r6,st1.trans s6⟩⟩,en.rt,en.rtF,(en.step st1).nx,⟨λδ6 h6 σ6 H6 r6 s6=>⟨δ6,h6,r6,st1.trans s6⟩⟩,en.ex⟩
 |false=>
  rw[if_neg Qj] at hb;show if false=true then _ else _
  rw[if_neg Qj];exact(en.step st1).nx.go δ' hb σ' H1 rel1 Stp.refl
theorem QlG{c:QM}{body:List ZH}{pos:Pos}{t:DT}{wb:DS}(hp:Qd2 (model X.prog X.w) X.A X.env X.xe)(hc:QT X E c t)(hb:QSs X E body wb):QS X E (.While c body [] pos) (Qks t wb):=⟨Qji hp hc.h hb.h⟩
end
theorem Qrg{t:DT}{wb:DS}{D:Qc9}{δ:Sts}(Iv:Nat->Sts->Prop)(m0:Nat)(h0:Iv m0 δ)
  (hs:∀m δ,Iv m δ->t δ (λb=>if b=true then wb { D with nx:=λδ'=>∃m',m'<m/\Iv m' δ',ct:=λδ'=>∃m',m'<m/\Iv m' δ',bk:=D.nx } δ else D.nx δ) D.ex):QtD t wb D δ:=by
 unfold QtD;exact⟨Iv,⟨m0,h0⟩,hs⟩
end Dl
namespace L2
section
variable{X:Cx}{pins:List (Addr×Obj)}{σ:St}{H H3:Hp}{s3:Shared}{M:List Str}{scope:Z3}{cap:List (Option Nat)}{fp:List Addr}{h4:JU}{t4:Nat}
end
section
variable{X:Cx}{pins:List (Addr×Obj)}{σ:St}{H:Hp}
end
end L2
namespace Rk
open L2 _root_.Rd Dl
end Rk
namespace Dl
open L2
section
variable{X:Cx}{E:XK}
end
end Dl
namespace Rk
open L2 _root_.Rd Dl Rt
end Rk
namespace Rk
open L2 _root_.Rd
def top(i:Nat):ZH:=PySem.Challenge.pw_rooklands_k73_least_weights_and_products.main.body.getD i (.Pass ⟨0,0,0,0⟩)
abbrev Qdq:ZH:=top 7
abbrev QbK:ZH:=top 8
abbrev Qdr:ZH:=top 9
abbrev QbL:ZH:=top 12
abbrev QhI:ZH:=top 13
abbrev QbM:ZH:=top 14
abbrev Qdt:ZH:=top 16
abbrev QhL:ZH:=top 18
abbrev Qdu:ZH:=top 20
abbrev sFol:ZH:=top 21
abbrev QhG:ZH:=top 22
abbrev Qdv:ZH:=top 26
abbrev QbN:ZH:=top 27
abbrev Qds:ZH:=top 28
abbrev sWt:ZH:=top 29
abbrev QhK:ZH:=top 30
abbrev QhJ:ZH:=top 31
abbrev QhH:ZH:=top 32
abbrev Qb1:ZH:=top 34
abbrev lPot:ZH:=top 35
abbrev QhV:ZH:=top 36
abbrev Qcf:ZH:=top 37
abbrev QhW:ZH:=top 38
abbrev QbZ:ZH:=top 39
abbrev Qb0:ZH:=top 40
abbrev QdJ:ZH:=top 41
abbrev QbY:ZH:=top 42
abbrev QhY:ZH:=top 43
abbrev QdH:ZH:=top 44
abbrev lFew:ZH:=top 45
abbrev QdI:ZH:=top 46
abbrev QhX:ZH:=top 47
abbrev sLaw:ZH:=top 48
section
variable{P:QF}{w:Q9}{K:PySem.W.Frag}{mg:Str->Option Value}{base:JU}
theorem Qly:Jd ["_law_script", "_law_k"] ["_law_script", "_law_k"] (Qo Qb1):=⟨rfl,rfl,rfl,by decide +kernel,rfl,by decide +kernel,by decide +kernel⟩
theorem QjG{f:Addr}{fd:QB}(F:Fun K "_law_cell_at" "_law_cell_at" Qb1 f fd)(T:GlbA mg):FnOk P w K mg base CX0 1 f fd ["_law_script", "_law_k"] (Qbn K):=by
 refine F.ok Qly (λvs H Q E h=>?_) (λcdv A outer s H vs Q E hr h=>?_)
 ·obtain⟨a,ns,k,rfl,_⟩:=h;rfl
 ·obtain⟨a,ns,n,rfl,hs,hl,h0,k⟩:=h;refine⟨_,ZD (Qfa (QbR Qmh (pv 1) (Zg Yx (by rfl) T.len YQ (Jl (pv 0) JV)) (JJ _)) (Yi (YM (QlR Qes (pv 0) (pv 1) (λ_ _=>rfl)))) QaI) (Yi (YM Ya)),?_⟩;refine⟨_,rfl,_,rfl,a,_,rfl,.inl hs,_,_,rfl,rfl,_,rfl,?_⟩;refine Qvi (λhlt=>?_) (λ_=>k 0);have hlt':n<(ns.map V.int).length:=of_decide_eq_true hlt;rw[Qe] at hlt';obtain⟨j,rfl⟩:=Int.eq_ofNat_of_zero_le h0;have hj:j<ns.length:=by omega
  refine⟨_,rfl,_,rfl,a,_,_,.int ns[j],rfl,rfl,hs,Zk ?_,k _⟩;rw[Qv,Qg hj];rfl
theorem QhF:Jd ["_law_cell", "_law_number", "_law_j", "_law_more"] ["_law_cell"] (Qo lPot):=⟨rfl,rfl,rfl,by decide +kernel,rfl,by decide +kernel,by decide +kernel⟩
theorem Qso{f:Addr}{fd:QB}(F:Fun K "_law_pot" "_law_pot" lPot f fd)(T:GlbA mg):FnOk P w K mg base CX0 1 f fd ["_law_cell"] Qru:=by
 refine F.ok QhF (λvs H Q E h=>?_) (λcdv A outer s H vs Q E hr h=>?_)
 ·obtain⟨c,rfl,_⟩:=h;rfl
 ·obtain⟨c,rfl,k⟩:=h;refine⟨_,ZD (Qfa (QbR Qmj (pv 0) (Qaj Qnw Ya Ya) (JJ _)) (Yi (YM (Qnv (Jl (Qaj Qdz (pv 0) (Qaj Qnw Ya Ya)) JV)))) QaI)
   (ZD (Qcd (i:=1) QhF.nd rfl (QZ rfl) Ya)
   (ZD (Qno Q4 rfl (Qfb (by rfl) T.range (Jl Ya JV)) (QcJ (i:=2) QhF.nd rfl (QZ rfl))
    (ZD (Qcd (i:=3) QhF.nd rfl (QZ rfl) (Qaj QgT (Qaj QdA (Qaj QdB (Qaj QdB (Qaj QgT (pv 0) Ya) (Qaj QdA Ya (pv 2))) Ya) Ya) Ya))
    (ZD (Qcd (i:=3) QhF.nd rfl (QZ rfl) (Qaj QgT (Qaj QdB (Qaj QdB (Qaj QdA (pv 3) (pv 3)) (Qaj QdA Ya (pv 2))) Ya) Ya))
    (Yi (Qcd (i:=1) QhF.nd rfl (QZ rfl) (Qaj QdB (Qaj QdA (pv 1) Ya) (pv 3)))))))
   (Yi (YM (Qnv (Jl (pv 1) JV)))))),?_⟩
  refine⟨_,rfl,_,_,rfl,rfl,⟨by decide,by decide,by decide⟩,_,_,rfl,rfl,_,rfl,?_⟩;refine Qvi (λ_=>?_) (λ_=>?_)
  ·exact⟨_,rfl,_,_,rfl,rfl,⟨by decide,by decide,by decide⟩,_,_,rfl,rfl,by show 1<=sizeLine;decide,λp hp=>k p _ hp⟩
  ·refine⟨64,rfl,by decide,by decide,Qkf (n:=64) (λi σ H2=>∃n v u,σ=[some (.int c),some (.int n),v,u]/\H2=H) ⟨0,none,none,rfl,rfl⟩ ?_ ?_⟩
   ·rintro i σ H2 hi ⟨n,v,u,rfl,rfl⟩;have b1:=Qhc ((c % 2147483629+7919*(0+(i:Int))+1)*48271) (m:=2147483647) (by decide);refine⟨_,rfl,_,_,rfl,rfl,by show(0:Int)<2147483629;decide,_,rfl,_,_,rfl,rfl,.inl ⟨by decide,by decide⟩,_,_,rfl,rfl,_,_,rfl,rfl,_,_,rfl,rfl,.inr ⟨by decide,by decide⟩,_,_,rfl,rfl,by show(0:Int)<2147483647;decide,?_⟩;refine⟨_,rfl,_,rfl,_,_,rfl,rfl,.inl ⟨by omega,by omega⟩,_,rfl,_,_,rfl,rfl,.inl ⟨by decide,by decide⟩,_,_,rfl,rfl,_,_,rfl,rfl,_,_,rfl,rfl,by show(0:Int)<2147483587;decide,?_⟩;exact⟨_,rfl,_,_,rfl,rfl,.inr ⟨by decide,by decide⟩,_,rfl,_,_,rfl,rfl,_,_,_,rfl,rfl⟩
   ·rintro σ H2 ⟨n,v,u,rfl,rfl⟩;exact⟨_,rfl,by show 1<=sizeLine;decide,λp hp=>k p _ hp⟩
theorem Qnh:Jd ["_law_pot_here", "_law_far", "_law_found"] ["_law_pot_here", "_law_far"] (Qo QhV):=⟨rfl,rfl,rfl,by decide +kernel,rfl,by decide +kernel,by decide +kernel⟩
theorem Qo5{f:Addr}{fd:QB}(F:Fun K "_law_take" "_law_take" QhV f fd)(T:GlbA mg):FnOk P w K mg base CX0 1 f fd ["_law_pot_here", "_law_far"] QgE:=by
 refine F.ok Qnh (λvs H Q E h=>?_) (λcdv A outer s H vs Q E hr h=>?_)
 ·obtain⟨p,n,m,rfl,_⟩:=h;rfl
 ·obtain⟨p,n,m,rfl,hp,h0,h1,k⟩:=h;refine⟨_,ZD (Qcd (i:=2) Qnh.nd rfl (QZ rfl) (Qaj QgT (QlR Qes (pv 0) Ya (λ_ _=>rfl)) (pv 1)))
   (ZD (Qnp (Qaj Qmk (QlR Qes (pv 0) Ya (λ_ _=>rfl)) (pv 1)) (Qnt (pv 0) Ya Qee))
   (Yi (YM (pv 2)))),?_⟩
  have b:=Qhc n h0;exact⟨_,rfl,p,_,_,_,rfl,rfl,SqL.of hp,rfl,_,rfl,_,_,rfl,rfl,h0,_,rfl,p,_,_,_,rfl,rfl,SqL.of hp,rfl,_,rfl,_,_,rfl,rfl,⟨h0,h1⟩,_,rfl,p,_,_,_,rfl,rfl,hp,rfl,_,rfl,k _ _ b.1 b.2⟩
end
end Rk
namespace Rk
open L2 _root_.Rd
open Dl
open Rt
section
variable{P:QF}{w:Q9}{K:PySem.W.Frag}{mg:Str->Option Value}{base:JU}
theorem Qlr:Jd ["thing"] ["thing"] (Qo Qdq):=⟨rfl,rfl,rfl,by decide +kernel,rfl,by decide +kernel,by decide +kernel⟩
theorem Qml{f   : Addr}{fd  : QB}(F:Fun K "is_whole" "is_whole" Qdq f fd)(T:GlbA mg) :
  FnOk P w K mg base CX0 1 f fd ["thing"] (JK false QeU):=by
 refine okQ false F Qlr (λargs R EX h=>?_) (λcdv A outer s H E hr=>?_)
 ·obtain⟨d,rfl,_⟩:=h;rfl
 ·have hU:=Room.u60 hr;have hI:=Room.i60 hr;refine⟨_,Q3 (YC (Qdh (QP (Qe7 .int (by rfl) T.isinstance (qp 0) (by rfl) T.int QdT)) (QcI (Qon (QP (Qe7 .bool (by rfl) T.isinstance (qp 0) (by rfl) T.bool Qc6)))))),λargs R EX h=>?_⟩;obtain⟨d,rfl,hR⟩:=h;cases d<;>exact hR
theorem QiX:Jd ["_law_found"] ["_law_found"] (Qo Qcf):=⟨rfl,rfl,rfl,by decide +kernel,rfl,by decide +kernel,by decide +kernel⟩
theorem QjC{f   : Addr}{fd  : QB}(F:Fun K "_law_whole" "_law_whole" Qcf f fd)(T:GlbA mg) :
  FnOk P w K mg base CX0 1 f fd ["_law_found"] (JK false QeU):=by
 refine okQ false F QiX (λargs R EX h=>?_) (λcdv A outer s H E hr=>?_)
 ·obtain⟨d,rfl,_⟩:=h;rfl
 ·have hU:=Room.u60 hr;have hI:=Room.i60 hr;refine⟨_,Q3 (YC (Qdh (QP (Qe7 .int (by rfl) T.isinstance (qp 0) (by rfl) T.int QdT)) (QcI (Qon (QP (Qe7 .bool (by rfl) T.isinstance (qp 0) (by rfl) T.bool Qc6)))))),λargs R EX h=>?_⟩;obtain⟨d,rfl,hR⟩:=h;cases d<;>exact hR
theorem QiU:Jd ["thing", "least", "most"] ["thing", "least", "most"] (Qo QbK):=⟨rfl,rfl,rfl,by decide +kernel,rfl,by decide +kernel,by decide +kernel⟩
theorem Qjw{f f1  : Addr}{fd fd1:QB}(F:Fun K "is_whole_within" "is_whole_within" QbK f fd)(T:GlbA mg)
  (m1:mg "is_whole" = some (.ref f1))(G1:FnOk P w K mg base CX0 1 f1 fd1 ["thing"] (JK false QeU))(b1:Binds K fd1 ["thing"] [])(k1:PySem.W.keepIn K (.ref f1)=true) :
  FnOk P w K mg base CX0 2 f fd ["thing", "least", "most"] (JK false QcA):=by
 refine okQ false F QiU (λargs R EX h=>?_) (λcdv A outer s H E hr=>?_)
 ·obtain⟨d,a,b,rfl,_⟩:=h;rfl
 ·have hU:=Room.u60 hr;have hI:=Room.i60 hr;refine⟨_,Q3 (YC (Qdh (Jb (ZC G1 (hr.mono (by decide)) (by rfl) m1 k1 b1 Ze (Z2 (qv 0) JD))) (QcI (JR (QvS Qf1 Qf1 (qp 1) (qp 0) (qp 2)))))),λargs R EX h=>?_⟩;obtain⟨d,a,b,rfl,hR⟩:=h;refine⟨d,rfl,?_⟩;cases d with
  |int i=>exact Qg4 (Qtd hR)
  |_=>exact hR
theorem Qfd:(["one", "other"]:List Str).Nodup:=by decide +kernel
theorem Qlt:Jd ["things"] ["things"] (Qo Qdr):=⟨rfl,rfl,rfl,by decide +kernel,rfl,by decide +kernel,by decide +kernel⟩
theorem Qmo{f   : Addr}{fd  : QB}(F:Fun K "is_never_falling" "is_never_falling" Qdr f fd)(T:GlbA mg) :
  FnOk P w K mg base CX0 1 f fd ["things"] (JK false QjL):=by
 refine okQ false F Qlt (λargs R EX h=>?_) (λcdv A outer s H E hr=>?_)
 ·obtain⟨ns,rfl,_⟩:=h;rfl
 ·have hU:=Room.u60 hr;have hI:=Room.i60 hr;refine⟨_,Q3 (Y3 (JI Qcy (QkJ rfl) (by rfl) T.all Qhm (YE (QP (QaH ["one", "other"] [none,none] (Qol (by rfl) T.zip (qp 0) (QP (Qom (qp 0) (Qoj (Jb Jo)) Qok))) (λcl ex s3 H3 C=>⟨(Qav rfl (J8 0 (J8 1 Qaw Qfd rfl (QZ rfl) (QU rfl)) Qfd rfl (QZ rfl) (QU rfl))),Yo,(JR (Qbq Qf1 Qax (qp 0) (qp 1) (JJ _)))⟩))) Q1))),λargs R EX h=>?_⟩;obtain⟨ns,rfl,hR⟩:=h;refine Qa5 (λd=>.bool (Qty d)) (λd hd k2 hk=>?_) (Qgr (items:=Qk5 (ns.map Qf) (Dl.cutD (ns.map Qf) (some 1) none)) rfl (by rw[Qna];exact hR));obtain⟨i,hi⟩:=Jy.mp hd;obtain⟨a,b,ha,hb,rfl⟩:=Dl.zip_get hi;obtain⟨x,_,rfl⟩:=Qs.mp (Qt ha);obtain⟨y,_,rfl⟩:=Qs.mp (QmR (Qt hb));exact⟨rfl,hk⟩
theorem QhR:(["part"]:List Str).Nodup:=by decide +kernel
theorem QiW:Jd ["thing"] ["thing"] (Qo QbL):=⟨rfl,rfl,rfl,by decide +kernel,rfl,by decide +kernel,by decide +kernel⟩
theorem Qjz{f f1 f2  : Addr}{fd fd1 fd2:QB}(hA:∃t,mg "MOST_LINES" = some (.int 6 t))(F:Fun K "is_stairs" "is_stairs" QbL f fd)(T:GlbA mg)
  (m1:mg "is_whole_within" = some (.ref f1))(G1:FnOk P w K mg base CX0 2 f1 fd1 ["thing", "least", "most"] (JK false QcA))(b1:Binds K fd1 ["thing", "least", "most"] [])(k1:PySem.W.keepIn K (.ref f1)=true)
  (m2:mg "is_never_falling" = some (.ref f2))(G2:FnOk P w K mg base CX0 1 f2 fd2 ["things"] (JK false QjL))(b2:Binds K fd2 ["things"] [])(k2:PySem.W.keepIn K (.ref f2)=true) :
  FnOk P w K mg base CX0 3 f fd ["thing"] (JK false QfP):=by
 refine okQ false F QiW (λargs R EX h=>?_) (λcdv A outer s H E hr=>?_)
 ·obtain⟨d,rfl,_⟩:=h;rfl
 ·obtain⟨tA,mA⟩:=hA;have hU:=Room.u60 hr;have hI:=Room.i60 hr;refine⟨_,QL (QcH (Qp2 (QrK (QcG (QcF (QP (Qe7 .tuple (by rfl) T.isinstance (qp 0) (by rfl) T.tuple YY)))) (Qnl (QcG (Quk Qf1 Qf1 (Jb Jo) (QP (JI ZK QaP (by rfl) T.len YQ (YE (qp 0) Q1))) (Jb (QgL 6 (by rfl) mA ⟨_,rfl⟩))))))) (Q3 (YC Qul)) YL)
   (Q3 (YC (Qdh (QP (JI Qcy (QkJ rfl) (by rfl) T.all Qhm (YE (QP (QaH ["part"] [none] (QaF (qp 0)) (λcl ex s3 H3 C=>⟨(Zd 0 QhR rfl (QZ rfl) (QU rfl)),Yo,(ZC G1 (hr.mono (by decide)) (by rfl) m1 k1 b1 Ze (Z2 (qv 0) (Z2 Jo (Z2 (QgL 6 (by rfl) mA ⟨_,rfl⟩) JD))))⟩))) Q1))) (QcI (ZC G2 (hr.mono (by decide)) (by rfl) m2 k2 b2 Ze (Z2 (qv 0) JD)))))),λargs R EX h=>?_⟩
  obtain⟨d,rfl,hR⟩:=h;cases d with
  |tuple ds=>
   have hR:R (.bool ((decide ((1:Int)<=ds.length)&&decide ((ds.length:Int)<=6))&&(ds.all (λd=>inW d 0 6)&&nfI (ds.map toI)))):=hR;refine ifC (λz1=>?_) λz1=>?_
   ·rw[show decide ((1:Int)<=ds.length)=true from z1,Z1] at hR;show if(!decide ((ds.length:Int)<=6))=true then _ else _
    cases z2:decide ((ds.length:Int)<=6) with
    |false=>rw[z2] at hR;exact hR
    |true=>
     rw[z2,Z1] at hR;refine Qa5 (λd=>.bool (inW d 0 6)) (λd hd k2 hk=>⟨_,_,_,rfl,hk⟩) (Qgr (items:=ds) rfl ?_);refine QkV hR λha hR=>⟨ds.map toI,?_,hR⟩
     rw[tI,<- (Qg5 ha).1]
   ·rw[show decide ((1:Int)<=ds.length)=false from z1] at hR;exact hR
  |_=>exact hR
theorem Qls:Jd ["stairs"] ["stairs"] (Qo QhI):=⟨rfl,rfl,rfl,by decide +kernel,rfl,by decide +kernel,by decide +kernel⟩
theorem Qmn{f f1  : Addr}{fd fd1:QB}(F:Fun K "refuse_no_stairs" "refuse_no_stairs" QhI f fd)(T:GlbA mg)
  (m1:mg "is_stairs" = some (.ref f1))(G1:FnOk P w K mg base CX0 3 f1 fd1 ["thing"] (JK false QfP))(b1:Binds K fd1 ["thing"] [])(k1:PySem.W.keepIn K (.ref f1)=true) :
  FnOk P w K mg base CX0 4 f fd ["stairs"] (JK false Qi2):=by
 refine okQ false F Qls (λargs R EX h=>?_) (λcdv A outer s H E hr=>?_)
 ·obtain⟨ns,rfl,_⟩:=h;rfl
 ·have hU:=Room.u60 hr;have hI:=Room.i60 hr;refine⟨_,Q3 (QcH (QcG (QcF (Jb (ZC G1 (hr.mono (by decide)) (by rfl) m1 k1 b1 Ze (Z2 (qv 0) JD))))) Qbp YL),λargs R EX h=>?_⟩;obtain⟨ns,rfl,hs,hR⟩:=h;refine⟨_,rfl,?_⟩;rw[Qlo hs];exact hR
theorem QbU:(["row", "column", "many", "stairs"]:List Str).Nodup:=by decide +kernel
theorem QcC:Jd ["stairs", "high", "cells"] ["stairs"] (Qo QbM):=⟨rfl,rfl,rfl,by decide +kernel,rfl,by decide +kernel,by decide +kernel⟩
theorem QjA{f f1  : Addr}{fd fd1:QB}(F:Fun K "stair_board" "stair_board" QbM f fd)(T:GlbA mg)
  (m1:mg "refuse_no_stairs" = some (.ref f1))(G1:FnOk P w K mg base CX0 4 f1 fd1 ["stairs"] (JK false Qi2))(b1:Binds K fd1 ["stairs"] [])(k1:PySem.W.keepIn K (.ref f1)=true) :
  FnOk P w K mg base CX0 5 f fd ["stairs"] (JK false Quc):=by
 refine okQ false F QcC (λargs R EX h=>?_) (λcdv A outer s H E hr=>?_)
 ·obtain⟨ns,rfl,_⟩:=h;rfl
 ·have hU:=Room.u60 hr;have hI:=Room.i60 hr;refine⟨_,QL (QbP (Jb (ZC G1 (hr.mono (by decide)) (by rfl) m1 k1 b1 Ze (Z2 (qv 0) JD))))
   (QL (ZR 1 (JR (JI (Y8 rfl) Qbz (by rfl) T.max QdS (YE (Jb (Qcj Zx YA (qp 0) (QP (QlI (Jb Jo))) (λ_ _=>rfl))) (YE (Jb Jo) Q1)))) QcC.nd)
   (QL (QlH ["row", "column", "many", "stairs"] [none,none,none,some 0] 2 QcC.nd (Qg8 0) (Qba (by rfl) T.range (qp 1)) (λcl ex s3 H3 C=>⟨(Zd 0 QbU rfl (QZ rfl) (QU rfl)),Yo,(Qcp (by rfl) T.enumerate (qv 3)),(Qav rfl (J8 1 (J8 2 Qaw QbU rfl (QZ rfl) (QU rfl)) QbU rfl (QZ rfl) (QU rfl))),(QbO (YB Qmh Qax (qp 0) (qp 2) (JJ _))),(JR (Qaz (Qab (qv 0) (Qab (qv 1) Q1))))⟩))
   (Q3 (Y3 (Qaz (Qab (qv 1) (Qab (JR (JI ZK QaP (by rfl) T.len YQ (YE (qp 0) Q1))) (Qab (JR (Qai ZZ Qby (by rfl) T.tuple YY (YE (qp 2) Q1))) Q1)))))))),λargs R EX h=>?_⟩
  obtain⟨ns,rfl,hs,hR⟩:=h;have hh:=QlA hs;have h6:=hs.l6;refine⟨_,rfl,hs,_,Qj2 hs.l1,QcN Que ⟨⟨by omega,by omega⟩,QkB (Qoe ns) 36 ?_ (λd hd acc N hb hN=>?_) ?_⟩⟩
  ·rw[QgI,Qe];exact QfQ hs
  ·obtain⟨i,hi⟩:=Jy.mp hd;obtain⟨hi,rfl⟩:=QfV hi;have er:Qoe ns (.int (0+(i:Int)))=(QcY (ns.map Qf)).filterMap (QrA (i:Int)):=by
    rw[Qhb];show(Qe6 (0+(i:Int)).toNat ns.length (stF ns)).map pairD=_;rw[show(0+(i:Int)).toNat=i by omega]
   refine QsO (QrA (i:Int)) ?_ (λd hd k1 k2 h1 h2=>?_) (by rw[<- er];exact hN)
   ·rw[YI,Qe];exact Yv (show acc.length+ns.length<=42 by omega) (by decide)
   ·obtain⟨c,hc⟩:=Jy.mp hd;obtain⟨e,he,rfl⟩:=ZO hc;obtain⟨m,_,rfl⟩:=Qs.mp (Qt he);have h1:(if(i:Int)<m then some (pairD ((i:Int),(c:Int))) else none)=none->k1:=h1;have h2:∀e,(if(i:Int)<m then some (pairD ((i:Int),(c:Int))) else none)=some e->k2 e:=h2
    refine⟨rfl,?_⟩;show if decide (0+(i:Int)<m)=true then k2 (.tuple [.int (0+(i:Int)),.int (c:Int)]) else k1
    rw[show(0:Int)+(i:Int)=(i:Int) by omega];by_cases z:(i:Int)<m
    ·rw[if_pos (decide_eq_true z)];exact h2 _ (if_pos z)
    ·rw[if_neg (by simpa using z)];exact h1 (if_neg z)
  ·rw[QgI,Jt];have hR:R (.tuple [.int (sH ns),.int ns.length,.tuple ((stC ns).map pairD)]):=hR;rw[<- Qe (f:=Qf)] at hR;exact hR
theorem QdE:(["row", "column", "cell"]:List Str).Nodup:=by decide +kernel
theorem QiZ:Jd ["stand", "cell"] ["stand", "cell"] (Qo QbN):=⟨rfl,rfl,rfl,by decide +kernel,rfl,by decide +kernel,by decide +kernel⟩
theorem QjF{f   : Addr}{fd  : QB}(F:Fun K "is_left" "is_left" QbN f fd)(T:GlbA mg) :
  FnOk P w K mg base CX0 1 f fd ["stand", "cell"] (JK false Qga):=by
 refine okQ false F QiZ (λargs R EX h=>?_) (λcdv A outer s H E hr=>?_)
 ·obtain⟨L,p,rfl,_⟩:=h;rfl
 ·have hU:=Room.u60 hr;have hI:=Room.i60 hr;refine⟨_,Q3 (YC (Qon (QP (JI QmV (Qta rfl) (by rfl) T.any Dl.bt_any (YE (QP (QaH ["row", "column", "cell"] [none,none,some 1] (QaF (qp 0)) (λcl ex s3 H3 C=>⟨(Qav rfl (J8 0 (J8 1 Qaw QdE rfl (QZ rfl) (QU rfl)) QdE rfl (QZ rfl) (QU rfl))),Yo,(Qve (Jb (Qdh (QP (Qbq QaL (QcK hU) (qp 1) (Jb (Qcj Zx YA (qp 2) (Jb Jo) (λ_ _=>rfl))) (JJ _))) (QcI (JR (Qbq Qmj Qax (qp 0) (Jb (Qcj Zx YA (qp 2) (Jb Jo) (λ_ _=>rfl))) (JJ _)))))) (QcI (Qdh (QP (Qbq QaL (QcK hU) (qp 0) (Jb (Qcj Zx YA (qp 2) (Jb Jo) (λ_ _=>rfl))) (JJ _))) (QcI (JR (Qbq Qmh Qax (qp 1) (Jb (Qcj Zx YA (qp 2) (Jb Jo) (λ_ _=>rfl))) (JJ _)))))))⟩))) Q1))))),λargs R EX h=>?_⟩;obtain⟨L,p,rfl,hR⟩:=h;refine Qa5 (λd=>.bool ((decide ((toP d).2=p.2)&&decide ((toP d).1≥p.1))||(decide ((toP d).1=p.1)&&decide ((toP d).2<p.2)))) (λd hd k2 hk=>?_) (QpR (items:=L.map pairD) rfl ?_)
  ·obtain⟨q,_,rfl⟩:=Qs.mp hd;have hk:k2 (.bool ((decide (q.2=p.2)&&decide (q.1≥p.1))||(decide (q.1=p.1)&&decide (q.2<p.2)))):=hk;have alt:k2 (.bool (decide (q.1=p.1)&&decide (q.2<p.2)))->∃d,atI [Qf p.1,.int p.2] 0=some d/\(λd=>eqD (.int q.1) d λb=>match b with | .bool c=>(if c=true then(∃d,atI [Qf p.1,.int p.2] 1=some d/\(ii0 λi j=>Zi (decide (i<j))) (.int q.2) d k2) else k2 (.bool false)) | _=>False) d:=λhk=>by
    refine⟨_,Zk (j:=0) rfl,?_⟩;show if decide (q.1=p.1)=true then _ else _
    cases z3:decide (q.1=p.1) with
    |true=>rw[z3] at hk;exact⟨_,Zk (j:=1) rfl,hk⟩
    |false=>rw[z3] at hk;exact hk
   refine⟨rfl,_,Zk (j:=1) rfl,?_⟩;refine ifC (λz1=>?_) λz1=>?_
   ·rw[show decide (q.2=p.2)=true from z1,Z1] at hk;refine⟨_,Zk (j:=0) rfl,?_⟩;refine ifC (λz2=>?_) λz2=>?_
    ·rw[show decide (q.1≥p.1)=true from z2,Bool.true_or] at hk;exact hk
    ·rw[show decide (q.1≥p.1)=false from z2,Qtr] at hk;exact alt hk
   ·rw[show decide (q.2=p.2)=false from z1,Qrf,Qtr] at hk;exact alt hk
  ·have e:((L.map pairD).any λd=>(decide ((toP d).2=p.2)&&decide ((toP d).1≥p.1))||(decide ((toP d).1=p.1)&&decide ((toP d).2<p.2)))=L.any λq=>(decide (q.2=p.2)&&decide (q.1≥p.1))||(decide (q.1=p.1)&&decide (q.2<p.2)):=by rw[Qii];rfl
   rw[e];exact hR
theorem QjO:(["cell", "stand"]:List Str).Nodup:=by decide +kernel
theorem Qlw:Jd ["board", "stand"] ["board", "stand"] (Qo Qdv):=⟨rfl,rfl,rfl,by decide +kernel,rfl,by decide +kernel,by decide +kernel⟩
theorem Qmt{f f1  : Addr}{fd fd1:QB}(F:Fun K "cells_left" "cells_left" Qdv f fd)(T:GlbA mg)
  (m1:mg "is_left" = some (.ref f1))(G1:FnOk P w K mg base CX0 1 f1 fd1 ["stand", "cell"] (JK false Qga))(b1:Binds K fd1 ["stand", "cell"] [])(k1:PySem.W.keepIn K (.ref f1)=true) :
  FnOk P w K mg base CX0 2 f fd ["board", "stand"] (JK false QkD):=by
 refine okQ false F Qlw (λargs R EX h=>?_) (λcdv A outer s H E hr=>?_)
 ·obtain⟨h,w,cs,L,rfl,_⟩:=h;rfl
 ·have hU:=Room.u60 hr;have hI:=Room.i60 hr;refine⟨_,Q3 (Y3 (Qai ZZ Qby (by rfl) T.tuple YY (YE (QP (QaH ["cell", "stand"] [none,some 1] (QaF (Jb (Qcj Zx YA (qp 0) (Jb Jo) (λ_ _=>rfl)))) (λcl ex s3 H3 C=>⟨(Zd 0 QjO rfl (QZ rfl) (QU rfl)),(QbO (QcF (Jb (ZC G1 (hr.mono (by decide)) (by rfl) m1 k1 b1 Ze (Z2 (qv 1) (Z2 (qv 0) JD)))))),(qv 0)⟩))) Q1))),λargs R EX h=>?_⟩;obtain⟨h,w,cs,L,rfl,hR⟩:=h;refine⟨_,Zk (j:=2) rfl,QkA (λd=>if Qet L (toP d)=true then some d else none) (λd hd k1 k2 h1 h2=>?_) ?_⟩
  ·obtain⟨p,_,rfl⟩:=Qs.mp hd;have h1:(if Qet L p=true then some (pairD p) else none)=none->k1:=h1;have h2:∀e,(if Qet L p=true then some (pairD p) else none)=some e->k2 e:=h2
   refine⟨_,_,rfl,?_⟩;show if Qet L p=true then k2 (pairD p) else k1
   by_cases z:Qet L p=true
   ·rw[if_pos z];exact h2 _ (if_pos z)
   ·rw[if_neg z];exact h1 (if_neg z)
  ·rw[Qcw];exact hR
theorem Qn8:Jd ["start"] ["start"] (Qo QhG):=⟨rfl,rfl,rfl,by decide +kernel,rfl,by decide +kernel,by decide +kernel⟩
theorem Qo6{f   : Addr}{fd  : QB}(F:Fun K "row_behind" "row_behind" QhG f fd)(T:GlbA mg) :
  FnOk P w K mg base CX0 1 f fd ["start"] (JK false Qod):=by
 refine okQ false F Qn8 (λargs R EX h=>?_) (λcdv A outer s H E hr=>?_)
 ·obtain⟨S,rfl,_⟩:=h;rfl
 ·have hU:=Room.u60 hr;have hI:=Room.i60 hr;refine⟨_,Q3 (YC (QrQ (Qnm (qp 0)) (JR (Yf ZJ Yw (Jb (Qcj Zx YA (Jb (Qcj Zx YA (qp 0) (QP (QlI (Jb Jo))) (λ_ _=>rfl))) (Jb Jo) (λ_ _=>rfl))) (Jb Jo))) Jo)),λargs R EX h=>?_⟩;obtain⟨S,rfl,hR⟩:=h;refine⟨trivial,?_⟩;unfold rbI at hR;cases e:S.getLast? with
  |none=>
   rw[e] at hR;rw[Qas] at e;subst e;exact hR
  |some c=>
   rw[e] at hR;refine ifT ?_ ⟨_,Qj1 e,_,Zk (j:=0) rfl,hR⟩
   cases S with
   |nil=>cases e
   |cons a b=>rfl
theorem Qpe:(["cell"]:List Str).Nodup:=by decide +kernel
theorem Qpd:(["cell", "row", "taken"]:List Str).Nodup:=by decide +kernel
theorem Qi0:Jd ["board", "start", "row", "taken"] ["board", "start"] (Qo sFol):=⟨rfl,rfl,rfl,by decide +kernel,rfl,by decide +kernel,by decide +kernel⟩
theorem Qsq{f f1  : Addr}{fd fd1:QB}(F:Fun K "followers" "followers" sFol f fd)(T:GlbA mg)
  (m1:mg "row_behind" = some (.ref f1))(G1:FnOk P w K mg base CX0 1 f1 fd1 ["start"] (JK false Qod))(b1:Binds K fd1 ["start"] [])(k1:PySem.W.keepIn K (.ref f1)=true) :
  FnOk P w K mg base CX0 2 f fd ["board", "start"] (JK false QuN):=by
 refine okQ false F Qi0 (λargs R EX h=>?_) (λcdv A outer s H E hr=>?_)
 ·obtain⟨h,w,cs,S,rfl,_⟩:=h;rfl
 ·have hU:=Room.u60 hr;have hI:=Room.i60 hr;refine⟨_,QL (ZR 2 (ZC G1 (hr.mono (by decide)) (by rfl) m1 k1 b1 Ze (Z2 (qv 1) JD)) Qi0.nd)
   (QL (ZR 3 (JR (QaH ["cell"] [none] (QaF (qp 1)) (λcl ex s3 H3 C=>⟨(Zd 0 Qpe rfl (QZ rfl) (QU rfl)),Yo,(Qcj Zx YA (qp 0) (Jb Jo) (λ_ _=>rfl))⟩))) Qi0.nd)
   (Q3 (Y3 (QaH ["cell", "row", "taken"] [none,some 2,some 3] (QaF (Jb (Qcj Zx YA (qp 0) (Jb Jo) (λ_ _=>rfl)))) (λcl ex s3 H3 C=>⟨(Zd 0 Qpd rfl (QZ rfl) (QU rfl)),(QbO (Qp2 (QgK (YB Qmj Qax (Jb (Qcj Zx YA (qp 0) (Jb Jo) (λ_ _=>rfl))) (qp 1) (JJ _)) (Qeg (YB Qjt (QuB hI) (Jb (Qcj Zx YA (qp 0) (Jb Jo) (λ_ _=>rfl))) (qp 2) (by rfl)))))),(qv 0)⟩))))),λargs R EX h=>?_⟩
  obtain⟨h,w,cs,S,rfl,hR⟩:=h;refine⟨_,rfl,Qa5 (λd=>.int (toP d).2) (λd hd k2 hk=>?_) ?_⟩
  ·obtain⟨p,_,rfl⟩:=Qs.mp hd;exact⟨_,Zk (j:=1) rfl,hk⟩
  ·rw[show(S.map pairD).map (λd=>Qf (toP d).2)=(S.map (·.2)).map Qf by rw[Je,Je];rfl];refine⟨_,Zk (j:=2) rfl,QkA (λd=>if(λc:Int×Int=>decide (rbI S<=c.1) && !decide (c.2∈S.map (·.2))) (toP d)=true then some d else none) (λd hd k1 k2 h1 h2=>?_) ?_⟩
   ·obtain⟨c,_,rfl⟩:=Qs.mp hd;have h1:(if(decide (rbI S<=c.1) && !decide (c.2∈S.map (·.2)))=true then some (pairD c) else none)=none->k1:=h1;have h2:∀e,(if(decide (rbI S<=c.1) && !decide (c.2∈S.map (·.2)))=true then some (pairD c) else none)=some e->k2 e:=h2
    refine⟨_,Zk (j:=0) rfl,?_⟩;refine ifC (λz1=>?_) λz1=>?_
    ·have z1:decide (rbI S<=c.1)=true:=z1;rw[z1,Z1] at h1 h2;refine⟨_,Zk (j:=1) rfl,⟨Qct _,rfl,by show Jx (.int _)<=50;unfold Jx;decide⟩,?_⟩;show if(!((S.map (·.2)).map Qf).any λe=>Jh e (.int c.2))=true then _ else k1
     rw[QpQ];by_cases z:(!decide (c.2∈S.map (·.2)))=true
     ·rw[if_pos z];exact h2 _ (if_pos z)
     ·rw[if_neg z];exact h1 (if_neg z)
    ·have z1:decide (rbI S<=c.1)=false:=z1;rw[z1] at h1;exact h1 rfl
   ·rw[Qcw (λc:Int×Int=>decide (rbI S<=c.1) && !decide (c.2∈S.map (·.2)))];exact hR
theorem Qnz:(["stand", "cell", "board"]:List Str).Nodup:=by decide +kernel
theorem Qlv:Jd ["board", "size", "stands", "step"] ["board", "size"] (Qo Qdu):=⟨rfl,rfl,rfl,by decide +kernel,rfl,by decide +kernel,by decide +kernel⟩
theorem Quy{f f1  : Addr}{fd fd1:QB}(F:Fun K "every_stand" "every_stand" Qdu f fd)(T:GlbA mg)
  (m1:mg "followers" = some (.ref f1))(G1:FnOk P w K mg base CX0 2 f1 fd1 ["board", "start"] (JK false QuN))(b1:Binds K fd1 ["board", "start"] [])(k1:PySem.W.keepIn K (.ref f1)=true) :
  FnOk P w K mg base CX0 3 f fd ["board", "size"] (JK true evD):=by
 refine okQ true F Qlv (λargs R EX h=>?_) (λcdv A outer s H E hr=>?_)
 ·obtain⟨h,w,cs,k,rfl,_⟩:=h;rfl
 ·have hU:=Room.u60 hr;have hI:=Room.i60 hr;refine⟨_,QL (Qag 2 (Qah (Qab (JR (Qaz Q1)) Q1)) Qlv.nd)
   (QL (YD Q4 rfl (Qba (by rfl) T.range (qp 1)) (Zd 3 Qlv.nd rfl (by first | exact QZ rfl | exact QU rfl))
    (Q3 (Qi8 ["stand", "cell", "board"] [none,none,some 0] 2 Qlv.nd (Qg8 0) (QaG (qp 2)) (λcl ex s3 H3 C=>⟨(Zd 0 Qnz rfl (QZ rfl) (QU rfl)),Yo,(QaG (ZC G1 (hr.mono (by decide)) (by rfl) m1 k1 b1 Ze (Z2 (qv 2) (Z2 (qv 0) JD)))),(Zd 1 Qnz rfl (QZ rfl) (QU rfl)),Yo,(JR (Yf ZJ Yw (qp 0) (QP (Qaz (Qab (qv 1) Q1)))))⟩))))
   (Q3 (Qeh 2))),λargs R EX h=>?_⟩
  obtain⟨h,w,cs,k,rfl,g,k6,hR⟩:=h;refine⟨⟨by omega,by omega⟩,Qb3 (λi δ=>∃ds x3,δ=[.v (bdD h w cs),.v (.int k),.own ds,x3]/\ds=(evS cs i).map stT) ⟨_,_,rfl,rfl⟩ ?_ ?_⟩
  ·rintro i δ hi ⟨ds,x3,rfl,rfl⟩;rw[Jt] at hi;refine QkB (evG cs) 200000 (by rw[Qki,Qe];exact QnD g (i+1)) (λd hd acc N hb hN=>?_) ?_
   ·obtain⟨S,hS,rfl⟩:=Qs.mp hd;have lS:=((Qbu g.r0 i S).mp hS).2;unfold evG at hb hN;rw[Qrt] at hb hN;rw[Qe] at hb;refine⟨_,_,_,_,rfl,QsN (λd=>.tuple (S.map pairD++[d])) (by rw[Qe];exact Yv hb (by decide)) (λd hd k2 hk=>?_) ?_⟩
    ·exact⟨by rw[Qe];show _+1<=_;omega,hk⟩
    ·rw[Je];have e:(fol cs S).map ((λd=>ZP (S.map pairD++[d]))∘pairD)=(fol cs S).map λc=>stT (S++[c]):=JW λc _=>by
      show ZP (S.map pairD++[pairD c])=ZP ((S++[c]).map pairD);rw[Jf];rfl
     rw[e];exact hN
   ·rw[Qki];exact⟨_,_,rfl,rfl⟩
  ·rintro δ ⟨ds,x3,rfl,rfl⟩;rw[Jt];exact hR
end
def Qkh:DF:=λargs R _=>∃m:Int,args=[.pot,.v (.int m)]/\0<=m/\m<=20/\∀ns,ZE ns->ns.sum<=m->R (tI ns)
def wtV(cs:List (Int×Int))(k:Nat)(i:Nat):Int:=((wt cs ((evS cs k).getD i []):Nat):Int)
def QmF(cs:List (Int×Int))(k:Nat):Option (List (Int×Int)):=(evS cs k)[bstI (wtV cs k) ((evS cs k).length - 1)]?
def Qer(cs:List (Int×Int))(k:Nat):Qa:=match QmF cs k with
 |some L=>stT L
 |none=>.none
def QjW:DF:=λargs R _=>∃(ns:List Int)(k:Nat),args=[.v (tI ns),.v (.int k)]/\ZE ns/\ns.sum<=20/\k<=ns.length/\R (Qer (stC ns) k)
def Qp3:Str:=("lightest" : Str) ++ ".<locals>." ++ "<lambda>"
theorem QmB{a b c:Str}{k1 k3:Yp}(h1:k1≠.free)(h3:k3≠.free):∀y,([(a,k1),(b,.free),(c,k3)]:List (Str×Yp)).lookup y=some .free->y=b:=λy h=>by
 simp only[QQ] at h;split at h
 ·exact absurd (Qq h) h1
 ·split at h
  ·rename_i q
   exact beq_iff_eq.mp q
  ·split at h
   ·exact absurd (Qq h) h3
   ·cases h
theorem Qfu(val:Nat->Int):∀j,bstI val j<=j/\(∀i,i<=j->val (bstI val j)<=val i)/\∀i,i<bstI val j->val (bstI val j)<val i
 |0=>⟨Qk _,λi hi=>by rw[show i=0 by omega];exact QeT _,λi hi=>absurd hi (Nat.not_lt_zero _)⟩
 |j+1=>by
  obtain⟨h1,h2,h3⟩:=Qfu val j;have eb:bstI val (j+1)=if decide (val (j+1)<val (bstI val j))=true then j+1 else bstI val j:=rfl
  by_cases z:val (j+1)<val (bstI val j)
  ·rw[decide_eq_true z,if_pos rfl] at eb;rw[eb];refine⟨Qk _,λi hi=>?_,λi hi=>?_⟩
   ·by_cases y:i=j+1
    ·rw[y];exact QeT _
    ·have:=h2 i (by omega);omega
   ·have:=h2 i (by omega);omega
  ·rw[decide_eq_false z,if_neg Qj] at eb;rw[eb];refine⟨by omega,λi hi=>?_,h3⟩;by_cases y:i=j+1
   ·rw[y];omega
   ·exact h2 i (by omega)
section
variable{P:QF}{w:Q9}{K:PySem.W.Frag}{mg:Str->Option Value}{base:JU}
theorem Qoa:Jd ["stairs"] ["stairs"] (Qo QhJ):=⟨rfl,rfl,rfl,by decide +kernel,rfl,by decide +kernel,by decide +kernel⟩
theorem Qo8{f f1  : Addr}{fd fd1:QB}(hB:∃t,mg "MOST_CELLS" = some (.int 20 t))(F:Fun K "refuse_too_many" "refuse_too_many" QhJ f fd)(T:GlbA mg)
  (m1:mg "refuse_no_stairs" = some (.ref f1))(G1:FnOk P w K mg base CX0 4 f1 fd1 ["stairs"] (JK false Qi2))(b1:Binds K fd1 ["stairs"] [])(k1:PySem.W.keepIn K (.ref f1)=true) :
  FnOk P w K mg base CX0 5 f fd ["stairs"] (JK false QlD):=by
 refine okQ false F Qoa (λargs R EX h=>?_) (λcdv A outer s H E hr=>?_)
 ·obtain⟨ns,rfl,_⟩:=h;rfl
 ·obtain⟨tB,mB⟩:=hB;have hU:=Room.u60 hr;have hI:=Room.i60 hr;refine⟨_,QL (QbP (Jb (ZC G1 (hr.mono (by decide)) (by rfl) m1 k1 b1 Ze (Z2 (qv 0) JD))))
   (Q3 (QcH (YB Qo0 Qax (QP (JI (Qfp rfl) QkF (by rfl) T.sum QnL (YE (qp 0) Q1))) (Jb (QgL 20 (by rfl) mB ⟨_,rfl⟩)) (JJ _)) Qbp YL)),λargs R EX h=>?_⟩
  obtain⟨ns,rfl,hs,h20,hR⟩:=h;refine⟨_,rfl,hs,QiK ns rfl ?_⟩;refine ifF (decide_eq_false (by omega)) hR
theorem Qn9:Jd ["stairs", "size"] ["stairs", "size"] (Qo QhH):=⟨rfl,rfl,rfl,by decide +kernel,rfl,by decide +kernel,by decide +kernel⟩
theorem Qo7{f f1  : Addr}{fd fd1:QB}(F:Fun K "refuse_no_size" "refuse_no_size" QhH f fd)(T:GlbA mg)
  (m1:mg "is_whole_within" = some (.ref f1))(G1:FnOk P w K mg base CX0 2 f1 fd1 ["thing", "least", "most"] (JK false QcA))(b1:Binds K fd1 ["thing", "least", "most"] [])(k1:PySem.W.keepIn K (.ref f1)=true) :
  FnOk P w K mg base CX0 3 f fd ["stairs", "size"] (JK false Qof):=by
 refine okQ false F Qn9 (λargs R EX h=>?_) (λcdv A outer s H E hr=>?_)
 ·obtain⟨ns,k,rfl,_⟩:=h;rfl
 ·have hU:=Room.u60 hr;have hI:=Room.i60 hr;refine⟨_,Q3 (QcH (QcG (QcF (Jb (ZC G1 (hr.mono (by decide)) (by rfl) m1 k1 b1 Ze (Z2 (qv 1) (Z2 Jo (Z2 (JR (JI ZK QaP (by rfl) T.len YQ (YE (qp 0) Q1))) JD))))))) Qbp YL),λargs R EX h=>?_⟩;obtain⟨ns,k,rfl,hk,hR⟩:=h;have e:(ns.map Qf).length=ns.length:=Qe _;refine⟨_,_,_,rfl,?_⟩;rw[show inW (.int (k:Int)) 0 (((ns.map Qf).length:Nat):Int)=true from Qpr (by omega) (by omega)];exact hR
theorem QiV:Jd ["board", "stand"] ["board", "stand"] (Qo sWt):=⟨rfl,rfl,rfl,by decide +kernel,rfl,by decide +kernel,by decide +kernel⟩
theorem Qjy{f f1  : Addr}{fd fd1:QB}(F:Fun K "weight" "weight" sWt f fd)(T:GlbA mg)
  (m1:mg "cells_left" = some (.ref f1))(G1:FnOk P w K mg base CX0 2 f1 fd1 ["board", "stand"] (JK false QkD))(b1:Binds K fd1 ["board", "stand"] [])(k1:PySem.W.keepIn K (.ref f1)=true) :
  FnOk P w K mg base CX0 3 f fd ["board", "stand"] (JK false wtD):=by
 refine okQ false F QiV (λargs R EX h=>?_) (λcdv A outer s H E hr=>?_)
 ·obtain⟨h,w,cs,L,rfl,_⟩:=h;rfl
 ·have hU:=Room.u60 hr;have hI:=Room.i60 hr;refine⟨_,Q3 (Y3 (JI ZK QaP (by rfl) T.len YQ (YE (Jb (ZC G1 (hr.mono (by decide)) (by rfl) m1 k1 b1 Ze (Z2 (qv 0) (Z2 (qv 1) JD)))) Q1))),λargs R EX h=>?_⟩;obtain⟨h,w,cs,L,rfl,hR⟩:=h;refine⟨_,_,_,_,rfl,?_⟩;have hR:R (.int ((cs.filter (Qet L)).length:Nat)):=hR;rw[<- Qe (f:=pairD)] at hR;exact hR
theorem QgH:Jd ["stairs", "size", "board"] ["stairs", "size"] (Qo Qds):=⟨rfl,rfl,rfl,by decide +kernel,rfl,by decide +kernel,by decide +kernel⟩
theorem Qmr{tc tP f f1 f2 f3 f4 f5  : Addr}{fd fd1 fd2 fd3 fd4 fd5:QB}(hcd:fd.code=.ref tc)(hC:PySem.W.CodeHd base tc tP)(hB:Qa6 base mg)(F:Fun K "lightest" "lightest" Qds f fd)(T:GlbA mg)
  (m1:mg "refuse_too_many" = some (.ref f1))(G1:FnOk P w K mg base CX0 5 f1 fd1 ["stairs"] (JK false QlD))(b1:Binds K fd1 ["stairs"] [])(k1:PySem.W.keepIn K (.ref f1)=true)
  (m2:mg "refuse_no_size" = some (.ref f2))(G2:FnOk P w K mg base CX0 3 f2 fd2 ["stairs", "size"] (JK false Qof))(b2:Binds K fd2 ["stairs", "size"] [])(k2:PySem.W.keepIn K (.ref f2)=true)
  (m3:mg "stair_board" = some (.ref f3))(G3:FnOk P w K mg base CX0 5 f3 fd3 ["stairs"] (JK false Quc))(b3:Binds K fd3 ["stairs"] [])(k3:PySem.W.keepIn K (.ref f3)=true)
  (m4:mg "every_stand" = some (.ref f4))(G4:FnOk P w K mg base CX0 3 f4 fd4 ["board", "size"] (JK true evD))(b4:Binds K fd4 ["board", "size"] [])(k4:PySem.W.keepIn K (.ref f4)=true)
  (m5:mg "weight" = some (.ref f5))(G5:FnOk P w K mg base CX0 3 f5 fd5 ["board", "stand"] (JK false wtD))(b5:Binds K fd5 ["board", "stand"] [])(k5:PySem.W.keepIn K (.ref f5)=true) :
  FnOk P w K mg base CX0 6 f fd ["stairs", "size"] (spT tP Qp3 (JK false QjW)):=by
 refine QvT false F hcd QgH (λargs R EX h=>?_) (λA outer s H E hr hT=>?_)
 ·obtain⟨ns,k,rfl,_⟩:=h;rfl
 ·have hU:=Room.u60 hr;have hI:=Room.i60 hr;refine⟨_,QL (QbP (Jb (ZC G1 (hr.mono (by decide)) (by rfl) m1 k1 b1 Ze (Z2 (qv 0) JD))))
   (QL (QbP (Jb (ZC G2 (hr.mono (by decide)) (by rfl) m2 k2 b2 Ze (Z2 (qv 0) (Z2 (qv 1) JD)))))
   (QL (ZR 2 (ZC G3 (hr.mono (by decide)) (by rfl) m3 k3 b3 Ze (Z2 (qv 0) JD)) QgH.nd)
   (Q3 (YC (QlJ (cb:=s.heap.objs.size+1) 2 G5 (hr.mono (by decide)) (by rfl) T.min b5 m5 k5 hT hC hB rfl rfl rfl (QP (Z6 G4 (hr.mono (by decide)) (by rfl) m4 k4 b4 Ze (Z2 (qv 2) (Z2 (qv 1) JD)))) rfl rfl rfl rfl rfl rfl rfl (by decide +kernel) rfl rfl (QmB (by decide) (by decide)) rfl (by decide) (by decide) (by decide) (by decide) (by decide) (λ_ _ _ _=>rfl) rfl rfl))))),λargs R EX h=>?_⟩
  obtain⟨ns,k,rfl,hs,h20,hk,hR⟩:=h;have g:=QcS hs;have h6:=hs.l6;refine⟨_,rfl,hs,h20,_,_,rfl,hk,_,rfl,hs,_,_,_,_,rfl,g,by omega,?_⟩;show QbV wtD (sBd ns) (.list ((evS (stC ns) k).map stT)) R;have gt:∀(i:Nat) d,((evS (stC ns) k).map stT)[i]? = some d->∃L,(evS (stC ns) k)[i]? = some L/\d=stT L:=λi d hd=>by
   rw[Qv] at hd;cases e:(evS (stC ns) k)[i]? with
   |none=>rw[e] at hd;cases hd
   |some p=>rw[e] at hd;cases hd;exact⟨p,rfl,rfl⟩
  refine QjR (wtV (stC ns) k) (λi d hd=>?_) (λe=>?_) λd hd=>?_
  ·obtain⟨L,eL,rfl⟩:=gt i d hd;refine⟨_,_,stC ns,L,rfl,?_⟩;unfold wtV;rw[QD,eL];rfl
  ·have e:=List.map_eq_nil_iff.mp e;have:Qer (stC ns) k=.none:=by unfold Qer QmF;rw[e];rfl
   rw[this] at hR;exact hR
  ·rw[Qe] at hd;obtain⟨L,eL,rfl⟩:=gt _ d hd;have:Qer (stC ns) k=stT L:=by unfold Qer QmF;rw[eL]
   rw[this] at hR;exact hR
end
section
variable{P:QF}{w:Q9}{K:PySem.W.Frag}{mg:Str->Option Value}{base:JU}
theorem Z8:Jd ["_law_pot_here", "_law_columns", "_law_most", "_law_found", "_law_least", "_law_column", "_law_step"] ["_law_pot_here", "_law_columns", "_law_most"] (Qo QbZ):=⟨rfl,rfl,rfl,by decide +kernel,rfl,by decide +kernel,by decide +kernel⟩
theorem QhP{f f1  : Addr}{fd fd1:QB}(F:Fun K "_law_stairs" "_law_stairs" QbZ f fd)(T:GlbA mg)
  (m1:mg "_law_take" = some (.ref f1))(G1:FnOk P w K mg base CX0 1 f1 fd1 ["_law_pot_here", "_law_far"] (JK true QiH))(b1:Binds K fd1 ["_law_pot_here", "_law_far"] [])(k1:PySem.W.keepIn K (.ref f1)=true) :
  FnOk P w K mg base CX0 2 f fd ["_law_pot_here", "_law_columns", "_law_most"] (JK false Qep):=by
 refine okQ false F Z8 (λargs R EX h=>?_) (λcdv A outer s H E hr=>?_)
 ·obtain⟨n,rfl,_⟩:=h;rfl
 ·have hU:=Room.u60 hr;have hI:=Room.i60 hr;refine⟨_,QL (ZR 3 (JR (Qaz Q1)) Z8.nd)
   (QL (ZR 4 Jo Z8.nd)
   (QL (YD Q4 rfl (Qba (by rfl) T.range (qp 1)) (Zd 5 Z8.nd rfl (by first | exact QZ rfl | exact QU rfl))
    (QL (ZR 6 (JR (Z6 G1 (hr.mono (by decide)) (by rfl) m1 k1 b1 Ze (Qa3 0 (Z2 Jo JD)))) Z8.nd)
   (QL (QcH (YB QaL (QcK hU) (QP (Z6 G1 (hr.mono (by decide)) (by rfl) m1 k1 b1 Ze (Qa3 0 (Z2 Jo JD)))) (Jb Jo) (JJ _)) (Q3 (ZR 6 (JR (Z6 G1 (hr.mono (by decide)) (by rfl) m1 k1 b1 Ze (Qa3 0 (Z2 (JR (Yf ZJ Yw (qp 2) (Jb Jo))) JD)))) Z8.nd)) YL)
   (QL (ZR 4 (JR (JI (Qfr rfl) QmT (by rfl) T.min Qhl (YE (qp 2) (YE (QP (Yf ZJ Yw (qp 4) (QP (Yf QaK Qce (qp 6) (QP (Qai Qfs QnJ (by rfl) T.int QdT (YE (Jb (Qve (QP (Qbq Qo0 Qax (qp 5) (Jb Jo) (JJ _))) (QcI (JR (Qbq QaL (QcK hU) (QP (Z6 G1 (hr.mono (by decide)) (by rfl) m1 k1 b1 Ze (Qa3 0 (Z2 Jo JD)))) (Jb Jo) (JJ _)))))) Q1))))))) Q1)))) Z8.nd)
   (Q3 (ZR 3 (JR (Yf ZJ Yw (qp 3) (QP (Qaz (Qab (qv 4) Q1))))) Z8.nd))))))
   (Q3 (YC (qv 3))))),λargs R EX h=>?_⟩
  obtain⟨n,rfl,n1,n6,hR⟩:=h;refine⟨⟨by omega,by omega⟩,Qb3 (λi δ=>∃ns x4 x5 x6,δ=[.pot,.v (.int n),.v (.int 6),.v (tI ns),.v (.int x4),x5,x6]/\ns.length=i/\(∀j∈ns,0<=j/\j<=6)/\nfI ns=true/\0<=x4/\x4<=6/\∀b,ns.getLast? = some b->b<=x4) ⟨[],0,_,_,rfl,rfl,λj hj=>(nomatch hj),rfl,by decide,by decide,λb hb=>(nomatch hb)⟩ ?_ ?_⟩
  ·rintro i δ hi ⟨ns,x4,x5,x6,rfl,hl,hb,hn,h0,h6,hlast⟩;refine⟨_,rfl,by decide,by decide,λr1 r10 r11=>⟨_,rfl,by decide,by decide,λr2 r20 r21=>?_⟩⟩;refine ifC (λzz=>?_) λzz=>?_
   ·refine⟨_,rfl,by decide,by decide,λr3 r30 r31=>?_⟩;have fin:∀v:Int,x4<=v->v<=6->∃ns' x4' x5' x6',[Sl.pot,.v (.int n),.v (.int 6),.v (.tuple (ns.map Qf++[.int v])),.v (.int v),.v (.int (0+(i:Int))),.v (.int r3)]=[.pot,.v (.int n),.v (.int 6),.v (tI ns'),.v (.int x4'),x5',x6']/\ns'.length=i+1/\(∀j∈ns',0<=j/\j<=6)/\nfI ns'=true/\0<=x4'/\x4'<=6/\∀b,ns'.getLast? = some b->b<=x4':=λv v0 v6=>by
     refine⟨ns++[v],v,_,_,by rw[tI,Jf];rfl,by rw[QC,hl];rfl,λj hj=>?_,Qf4 hn λb hb'=>Qiu (hlast b hb') v0,by omega,v6,λb hb'=>?_⟩
     ·rcases J1.mp hj with z | z
      ·exact hb j z
      ·rw[Q0.mp z];omega
     ·rw[QbE] at hb';have:v=b:=by simpa using hb'
      omega
    have fin2:∀t:Int,0<=t->∃v,(if x4+t<6 then x4+t else 6)=v/\x4<=v/\v<=6:=λt t0=>⟨_,rfl,by split<;>omega,by split<;>omega⟩
    refine ifC (λz=>?_) λz=>?_
    ·refine⟨.inl (.inr (by decide)),?_⟩;obtain⟨v,ev,v0,v6⟩:=fin2 (r3*1) (by omega);refine Qeo ev ⟨by rw[Qe];show _+1<=_;omega,fin v v0 v6⟩
    ·refine⟨_,rfl,by decide,by decide,λrb rb0 rb1=>?_⟩;refine⟨.inl (.inr (by show -(2^64:Int)<(if decide (rb=0)=true then 1 else 0)/\(if decide (rb=0)=true then(1:Int) else 0)<2^64;split<;>decide)),?_⟩;obtain⟨v,ev,v0,v6⟩:=fin2 (r3*(if decide (rb=0)=true then 1 else 0)) (by split<;>omega);refine Qeo ev ⟨by rw[Qe];show _+1<=_;omega,fin v v0 v6⟩
   ·skip
    have fin:∀v:Int,x4<=v->v<=6->∃ns' x4' x5' x6',[Sl.pot,.v (.int n),.v (.int 6),.v (.tuple (ns.map Qf++[.int v])),.v (.int v),.v (.int (0+(i:Int))),.v (.int r1)]=[.pot,.v (.int n),.v (.int 6),.v (tI ns'),.v (.int x4'),x5',x6']/\ns'.length=i+1/\(∀j∈ns',0<=j/\j<=6)/\nfI ns'=true/\0<=x4'/\x4'<=6/\∀b,ns'.getLast? = some b->b<=x4':=λv v0 v6=>by
     refine⟨ns++[v],v,_,_,by rw[tI,Jf];rfl,by rw[QC,hl];rfl,λj hj=>?_,Qf4 hn λb hb'=>Qiu (hlast b hb') v0,by omega,v6,λb hb'=>?_⟩
     ·rcases J1.mp hj with z | z
      ·exact hb j z
      ·rw[Q0.mp z];omega
     ·rw[QbE] at hb';have:v=b:=by simpa using hb'
      omega
    have fin2:∀t:Int,0<=t->∃v,(if x4+t<6 then x4+t else 6)=v/\x4<=v/\v<=6:=λt t0=>⟨_,rfl,by split<;>omega,by split<;>omega⟩
    refine ifC (λz=>?_) λz=>?_
    ·refine⟨.inl (.inr (by decide)),?_⟩;obtain⟨v,ev,v0,v6⟩:=fin2 (r1*1) (by omega);refine Qeo ev ⟨by rw[Qe];show _+1<=_;omega,fin v v0 v6⟩
    ·refine⟨_,rfl,by decide,by decide,λrb rb0 rb1=>?_⟩;refine⟨.inl (.inr (by show -(2^64:Int)<(if decide (rb=0)=true then 1 else 0)/\(if decide (rb=0)=true then(1:Int) else 0)<2^64;split<;>decide)),?_⟩;obtain⟨v,ev,v0,v6⟩:=fin2 (r1*(if decide (rb=0)=true then 1 else 0)) (by split<;>omega);refine Qeo ev ⟨by rw[Qe];show _+1<=_;omega,fin v v0 v6⟩
  ·rintro δ ⟨ns,x4,x5,x6,rfl,hl,hb,hn,h0,h6,hlast⟩;exact hR ns ⟨by omega,by omega,hb,hn⟩
theorem QcM:(["_law_column", "_law_number", "_law_row"]:List Str).Nodup:=by decide +kernel
theorem QaT:Jd ["_law_stairs_here", "_law_high", "_law_cells", "_law_row"] ["_law_stairs_here"] (Qo Qb0):=⟨rfl,rfl,rfl,by decide +kernel,rfl,by decide +kernel,by decide +kernel⟩
theorem QhQ{f   : Addr}{fd  : QB}(F:Fun K "_law_stair_board" "_law_stair_board" Qb0 f fd)(T:GlbA mg) :
  FnOk P w K mg base CX0 1 f fd ["_law_stairs_here"] (JK false Qeq):=by
 refine okQ false F QaT (λargs R EX h=>?_) (λcdv A outer s H E hr=>?_)
 ·obtain⟨ns,rfl,_⟩:=h;rfl
 ·have hU:=Room.u60 hr;have hI:=Room.i60 hr;refine⟨_,QL (ZR 1 (JR (JI (Y8 rfl) Qbz (by rfl) T.max QdS (YE (Jb Jo) (YE (Jb (Qcj Zx YA (qp 0) (QP (QlI (Jb Jo))) (λ_ _=>rfl))) Q1)))) QaT.nd)
   (QL (Qag 2 (Qah Q1) QaT.nd)
   (QL (YD Q4 rfl (Qba (by rfl) T.range (qp 1)) (Zd 3 QaT.nd rfl (by first | exact QZ rfl | exact QU rfl))
    (Q3 (QrM 2 (QP (QaH ["_law_column", "_law_number", "_law_row"] [none,none,some 3] (Qcp (by rfl) T.enumerate (qp 0)) (λcl ex s3 H3 C=>⟨(Qav rfl (J8 0 (J8 1 Qaw QcM rfl (QZ rfl) (QU rfl)) QcM rfl (QZ rfl) (QU rfl))),(QbO (YB Qmh Qax (qp 2) (qp 1) (JJ _))),(JR (Qaz (Qab (qv 2) (Qab (qv 0) Q1))))⟩))))))
   (Q3 (Y3 (Qaz (Qab (qv 1) (Qab (JR (JI ZK QaP (by rfl) T.len YQ (YE (qp 0) Q1))) (Qab (JR (Qai ZZ Qby (by rfl) T.tuple YY (YE (qp 2) Q1))) Q1)))))))),λargs R EX h=>?_⟩
  obtain⟨ns,rfl,hs,hR⟩:=h;have hh:=QlA hs;have h6:=hs.l6;have hc:=QfQ hs;refine⟨_,Qj2 hs.l1,QcN Qrz ⟨⟨by omega,by omega⟩,Qb3 (λi δ=>∃ds x3,δ=[.v (tI ns),.v (.int (sH ns)),.own ds,x3]/\ds=(YO i ns.length (stF ns)).map pairD) ⟨_,_,rfl,rfl⟩ ?_ ?_⟩⟩
  ·rintro i δ hi ⟨ds,x3,rfl,rfl⟩;rw[Jt] at hi;refine QkA (QrA (i:Int)) (λd hd k1 k2 h1 h2=>?_) ?_
   ·obtain⟨c,hc⟩:=Jy.mp hd;obtain⟨e,he,rfl⟩:=ZO hc;obtain⟨m,_,rfl⟩:=Qs.mp (Qt he);have h1:(if(i:Int)<m then some (pairD ((i:Int),(c:Int))) else none)=none->k1:=h1;have h2:∀e,(if(i:Int)<m then some (pairD ((i:Int),(c:Int))) else none)=some e->k2 e:=h2
    refine⟨rfl,?_⟩;show if decide (0+(i:Int)<m)=true then k2 (.tuple [.int (0+(i:Int)),.int (c:Int)]) else k1
    rw[show(0:Int)+(i:Int)=(i:Int) by omega];by_cases z:(i:Int)<m
    ·rw[if_pos (decide_eq_true z)];exact h2 _ (if_pos z)
    ·rw[if_neg (by simpa using z)];exact h1 (if_neg z)
   ·rw[Qhb];have l1:=Qb6 ns.length (stF ns) i;have l2:=Qef i ns.length (stF ns);have l3:i*ns.length<=6*6:=Qtm (by omega) h6;refine⟨by rw[Qe,Qe];omega,_,_,rfl,?_⟩;rw[Qao,Jf]
  ·rintro δ ⟨ds,x3,rfl,rfl⟩;rw[Jt];have hR:R (.tuple [.int (sH ns),.int ns.length,.tuple ((stC ns).map pairD)]):=hR;rw[<- Qe (f:=Qf)] at hR;exact hR
theorem QjN:(["_law_one", "_law_column", "_law_row"]:List Str).Nodup:=by decide +kernel
theorem QjM:(["_law_one", "_law_column", "_law_row"]:List Str).Nodup:=by decide +kernel
theorem QaU:Jd ["_law_board", "_law_stand", "_law_found", "_law_row", "_law_column", "_law_over", "_law_ahead"] ["_law_board", "_law_stand"] (Qo QhY):=⟨rfl,rfl,rfl,by decide +kernel,rfl,by decide +kernel,by decide +kernel⟩
theorem Qmq{f   : Addr}{fd  : QB}(F:Fun K "_law_left" "_law_left" QhY f fd)(T:GlbA mg) :
  FnOk P w K mg base CX0 1 f fd ["_law_board", "_law_stand"] (JK false QjV):=by
 refine okQ false F QaU (λargs R EX h=>?_) (λcdv A outer s H E hr=>?_)
 ·obtain⟨h,w,cs,L,rfl,_⟩:=h;rfl
 ·have hU:=Room.u60 hr;have hI:=Room.i60 hr;refine⟨_,QL (Qag 2 (Qah Q1) QaU.nd)
   (QL (YD Q4 rfl (QaF (Qcj Zx YA (qp 0) (Jb Jo) (λ_ _=>rfl))) (Qav rfl (J8 3 (J8 4 Qaw QaU.nd rfl (by first | exact QZ rfl | exact QU rfl)) QaU.nd rfl (by first | exact QZ rfl | exact QU rfl)))
    (QL (Qei ["_law_one", "_law_column", "_law_row"] [none,some 4,some 3] 5 QaU.nd (QaF (qp 1)) (λcl ex s3 H3 C=>⟨(Zd 0 QjN rfl (QZ rfl) (QU rfl)),(QbO (Qp2 (QgK (YB QaL (QcK hU) (Jb (Qcj Zx YA (qp 0) (Jb Jo) (λ_ _=>rfl))) (qp 1) (JJ _)) (Qeg (YB Qmj Qax (Jb (Qcj Zx YA (qp 0) (Jb Jo) (λ_ _=>rfl))) (qp 2) (JJ _)))))),(qv 0)⟩))
   (QL (Qei ["_law_one", "_law_column", "_law_row"] [none,some 4,some 3] 6 QaU.nd (QaF (qp 1)) (λcl ex s3 H3 C=>⟨(Zd 0 QjM rfl (QZ rfl) (QU rfl)),(QbO (Qp2 (QgK (YB QaL (QcK hU) (Jb (Qcj Zx YA (qp 0) (Jb Jo) (λ_ _=>rfl))) (qp 2) (JJ _)) (Qeg (YB Qf1 Qax (Jb (Qcj Zx YA (qp 0) (Jb Jo) (λ_ _=>rfl))) (qp 1) (JJ _)))))),(qv 0)⟩))
   (Q3 (QcH (YB QaL (QcK hU) (QP (Yf ZJ Yw (qp 5) (qp 6))) (QP (Qah Q1)) (JJ _)) (Q3 (Qi9 2 (JR (Qaz (Qab (qv 3) (Qab (qv 4) Q1)))))) YL)))))
   (Q3 (Y3 (Qai ZZ Qby (by rfl) T.tuple YY (YE (qp 2) Q1))))),λargs R EX h=>?_⟩
  obtain⟨h,w,cs,L,rfl,hl,hc,hR⟩:=h;refine⟨_,Zk (j:=2) rfl,Zt (λi δ=>∃ds x3 x4 x5 x6,δ=[.v (bdD h w cs),.v (stT L),.own ds,x3,x4,x5,x6]/\ds=((cs.take i).filter (Qet L)).map pairD) ⟨_,_,_,_,_,rfl,rfl⟩ ?_ ?_⟩
  ·rintro i d δ hd ⟨ds,x3,x4,x5,x6,rfl,rfl⟩;rw[Qv] at hd;obtain⟨p,ep,rfl⟩:∃p,cs[i]? = some p/\d=pairD p:=by
    cases e:cs[i]? with
    |none=>rw[e] at hd;cases hd
    |some p=>rw[e] at hd;cases hd;exact⟨p,rfl,rfl⟩
   refine⟨rfl,QkA (λd=>if(λq:Int×Int=>decide (q.2=p.2)&&decide (q.1≥p.1)) (toP d)=true then some d else none) (λd hd k1 k2 h1 h2=>?_) ?_⟩
   ·obtain⟨q,_,rfl⟩:=Qs.mp hd;have h1:(if(decide (q.2=p.2)&&decide (q.1≥p.1))=true then some (pairD q) else none)=none->k1:=h1;have h2:∀e,(if(decide (q.2=p.2)&&decide (q.1≥p.1))=true then some (pairD q) else none)=some e->k2 e:=h2
    refine⟨_,Zk (j:=1) rfl,?_⟩;refine ifC (λz1=>?_) λz1=>?_
    ·have z1:decide (q.2=p.2)=true:=z1;rw[z1,Z1] at h1 h2;refine⟨_,Zk (j:=0) rfl,?_⟩;refine ifC (λz2=>?_) λz2=>?_
     ·have z2:decide (q.1≥p.1)=true:=z2;rw[z2] at h2;exact h2 _ (if_pos rfl)
     ·have z2:decide (q.1≥p.1)=false:=z2;rw[z2] at h1;exact h1 rfl
    ·have z1:decide (q.2=p.2)=false:=z1;rw[z1] at h1;exact h1 rfl
   ·rw[Qcw (λq:Int×Int=>decide (q.2=p.2)&&decide (q.1≥p.1))];refine QkA (λd=>if(λq:Int×Int=>decide (q.1=p.1)&&decide (q.2<=p.2)) (toP d)=true then some d else none) (λd hd k1 k2 h1 h2=>?_) ?_
    ·obtain⟨q,_,rfl⟩:=Qs.mp hd;have h1:(if(decide (q.1=p.1)&&decide (q.2<=p.2))=true then some (pairD q) else none)=none->k1:=h1;have h2:∀e,(if(decide (q.1=p.1)&&decide (q.2<=p.2))=true then some (pairD q) else none)=some e->k2 e:=h2
     refine⟨_,Zk (j:=0) rfl,?_⟩;refine ifC (λz1=>?_) λz1=>?_
     ·have z1:decide (q.1=p.1)=true:=z1;rw[z1,Z1] at h1 h2;refine⟨_,Zk (j:=1) rfl,?_⟩;refine ifC (λz2=>?_) λz2=>?_
      ·have z2:decide (q.2<=p.2)=true:=z2;rw[z2] at h2;exact h2 _ (if_pos rfl)
      ·have z2:decide (q.2<=p.2)=false:=z2;rw[z2] at h1;exact h1 rfl
     ·have z1:decide (q.1=p.1)=false:=z1;rw[z1] at h1;exact h1 rfl
    ·rw[Qcw (λq:Int×Int=>decide (q.1=p.1)&&decide (q.2<=p.2))];have l1:=Zr (λq:Int×Int=>decide (q.2=p.2)&&decide (q.1≥p.1)) L;have l2:=Zr (λq:Int×Int=>decide (q.1=p.1)&&decide (q.2<=p.2)) L;refine⟨by rw[Qe,Qe];omega,?_⟩;rw[<- Jf];refine⟨⟨Qbr _,rfl,.inr (by decide)⟩,?_⟩;rw[Qpx,Qpy,QmG];have tk:(cs.take (i+1)).filter (Qet L)=(cs.take i).filter (Qet L)++(if Qet L p=true then[p] else[]):=by
      rw[JH,ep,Qae]
      congr 1
      by_cases z:Qet L p=true
      ·rw[if_pos z];exact Ys z
      ·rw[if_neg z];exact Yt z
     have l3:=Zr (Qet L) (cs.take i);have l4:(cs.take i).length<=cs.length:=List.length_take_le' _ _;refine ifC (λz=>?_) λz=>?_
     ·refine⟨by rw[Qe];omega,_,_,_,_,_,rfl,?_⟩;rw[tk,if_pos z,Jf];rfl
     ·refine⟨_,_,_,_,_,rfl,?_⟩;rw[tk,if_neg (by rw[z];exact Qj),Zn]
  ·rintro δ ⟨ds,x3,x4,x5,x6,rfl,rfl⟩;rw[Qe,JF];exact hR
end
section
variable{P:QF}{w:Q9}{K:PySem.W.Frag}{mg:Str->Option Value}{base:JU}
theorem QcL:(["_law_row", "_law_column", "_law_cell"]:List Str).Nodup:=by decide +kernel
theorem Z7:Jd ["_law_board", "_law_size", "_law_found", "_law_turn", "_law_longer", "_law_stand", "_law_cell", "_law_apart"] ["_law_board", "_law_size"] (Qo QbY):=⟨rfl,rfl,rfl,by decide +kernel,rfl,by decide +kernel,by decide +kernel⟩
theorem QhO{f   : Addr}{fd  : QB}(F:Fun K "_law_stands" "_law_stands" QbY f fd)(T:GlbA mg) :
  FnOk P w K mg base CX0 1 f fd ["_law_board", "_law_size"] (JK false lev):=by
 refine okQ false F Z7 (λargs R EX h=>?_) (λcdv A outer s H E hr=>?_)
 ·obtain⟨h,w,cs,k,rfl,_⟩:=h;rfl
 ·have hU:=Room.u60 hr;have hI:=Room.i60 hr;refine⟨_,QL (ZR 2 (JR (Qah (Qab (JR (Qaz Q1)) Q1))) Z7.nd)
   (QL (YD Q4 rfl (Qba (by rfl) T.range (qp 1)) (Zd 3 Z7.nd rfl (by first | exact QZ rfl | exact QU rfl))
    (QL (Qag 4 (Qah Q1) Z7.nd)
   (QL (YD Q4 rfl (QaG (qv 2)) (Zd 5 Z7.nd rfl (by first | exact QZ rfl | exact QU rfl))
    (Q3 (YD Q4 rfl (QaF (Qcj Zx YA (qp 0) (Jb Jo) (λ_ _=>rfl))) (Zd 6 Z7.nd rfl (by first | exact QZ rfl | exact QU rfl))
    (QL (ZR 7 (JR (JI Qcy (QkJ rfl) (by rfl) T.all Qhm (YE (QP (QaH ["_law_row", "_law_column", "_law_cell"] [none,none,some 6] (QaF (qp 5)) (λcl ex s3 H3 C=>⟨(Qav rfl (J8 0 (J8 1 Qaw QcL rfl (QZ rfl) (QU rfl)) QcL rfl (QZ rfl) (QU rfl))),Yo,(Qdh (QP (Qbq QgS (Qmu hU) (Jb (Qcj Zx YA (qp 2) (Jb Jo) (λ_ _=>rfl))) (qp 0) (JJ _))) (QcI (JR (Qbq QgS (Qmu hU) (Jb (Qcj Zx YA (qp 2) (Jb Jo) (λ_ _=>rfl))) (qp 1) (JJ _)))))⟩))) Q1))) Z7.nd)
   (Q3 (QcH (Qp2 (QgK (Qnm (qp 7)) (Qeg (Qp2 (QrK (YB QaL (QcK hU) (qp 5) (QP (Qaz Q1)) (JJ _)) (Qnl (YB Qsk (Qsu hU) (qp 6) (Jb (Qcj Zx YA (qp 5) (QP (QlI (Jb Jo))) (λ_ _=>rfl))) (JJ _)))))))) (Q3 (Qi9 4 (JR (Yf ZJ Yw (qp 5) (QP (Qaz (Qab (qv 6) Q1))))))) YL))))))
   (Q3 (QrN [4] (ZR 2 (qv 4) Z7.nd))))))
   (Q3 (YC (qv 2)))),λargs R EX h=>?_⟩
  obtain⟨h,w,cs,k,rfl,g,k6,hR⟩:=h;refine⟨⟨by omega,by omega⟩,Qb3 (λi δ=>∃x3 x4 x5 x6 x7,δ=[.v (bdD h w cs),.v (.int k),.v (.list ((evS cs i).map stT)),x3,x4,x5,x6,x7]) ⟨_,_,_,_,_,rfl⟩ ?_ ?_⟩
  ·rintro i δ hi ⟨x3,x4,x5,x6,x7,rfl⟩;have hi:i<k:=by rw[Jt] at hi;exact hi
   refine Zt (λj δ=>∃ds x5 x6 x7,δ=[.v (bdD h w cs),.v (.int k),.v (.list ((evS cs i).map stT)),.v (.int (0+(i:Int))),.own ds,x5,x6,x7]/\ds=(((evS cs i).take j).flatMap λS=>(fol cs S).map λc=>S++[c]).map stT) ⟨_,_,_,_,rfl,rfl⟩ ?_ ?_
   ·rintro j d δ hd ⟨ds,x5,x6,x7,rfl,rfl⟩;rw[Qv] at hd;obtain⟨S,eS,rfl⟩:∃L,(evS cs i)[j]? = some L/\d=stT L:=by
     cases e:(evS cs i)[j]? with
     |none=>rw[e] at hd;cases hd
     |some p=>rw[e] at hd;cases hd;exact⟨p,rfl,rfl⟩
    obtain⟨st,lS⟩:=(Qbu g.r0 i S).mp (Qt eS);have ef:=Qpl g.r0 st.rows;have e1:((evS cs i).take (j+1)).flatMap (λS=>(fol cs S).map λc=>S++[c])=((evS cs i).take j).flatMap (λS=>(fol cs S).map λc=>S++[c])++(fol cs S).map λc=>S++[c]:=by
     rw[JH,eS,Ym];simp
    have few:(((evS cs i).take j).flatMap (λS=>(fol cs S).map λc=>S++[c])).length+(fol cs S).length<=200000:=by
     have q:=QnD g (i+1);have q2:(((evS cs i).take (j+1)).flatMap (λS=>(fol cs S).map λc=>S++[c])).length<=(evS cs (i+1)).length:=by
      have ea:evS cs (i+1)=((evS cs i).take (j+1)).flatMap (λS=>(fol cs S).map λc=>S++[c])++((evS cs i).drop (j+1)).flatMap (λS=>(fol cs S).map λc=>S++[c]):=by
       rw[<- Ym,Qid];rfl
      rw[ea,QC];omega
     rw[e1,QC,Qe] at q2;omega
    refine⟨_,Zk (j:=2) rfl,Zt (λm δ=>∃ds x6 x7,δ=[.v (bdD h w cs),.v (.int k),.v (.list ((evS cs i).map stT)),.v (.int (0+(i:Int))),.own ds,.v (stT S),x6,x7]/\ds=(((evS cs i).take j).flatMap (λS=>(fol cs S).map λc=>S++[c])++((cs.take m).filter (lnx S)).map λc=>S++[c]).map stT) ⟨_,_,_,rfl,by simp⟩ ?_ ?_⟩
    ·rintro m d δ hd ⟨ds,x6,x7,rfl,rfl⟩;rw[Qv] at hd;obtain⟨c,ec,rfl⟩:∃p,cs[m]? = some p/\d=pairD p:=by
      cases e:cs[m]? with
      |none=>rw[e] at hd;cases hd
      |some p=>rw[e] at hd;cases hd;exact⟨p,rfl,rfl⟩
     have et:cs.take (m+1)=cs.take m++[c]:=by rw[JH,ec];rfl
     have sl:((cs.take m).filter (lnx S)).length<=(fol cs S).length:=by
      rw[<- ef];exact List.Sublist.length_le (List.Sublist.filter _ (Qm4 _ _))
     refine Qa5 (λd=>.bool (!decide (c.1=(toP d).1) && !decide (c.2=(toP d).2))) (λd hd k3 hk=>?_) (Qgr (items:=S.map pairD) rfl ?_)
     ·obtain⟨q,_,rfl⟩:=Qs.mp hd;refine⟨rfl,_,Zk (j:=0) rfl,?_⟩;refine QkV hk λ_ hk=>⟨_,Zk (j:=1) rfl,hk⟩
     ·have e:((S.map pairD).all λd => !decide (c.1=(toP d).1) && !decide (c.2=(toP d).2))=S.all λq => !decide (c.1=q.1) && !decide (c.2=q.2):=by rw[QtU];rfl
      rw[e];have yes:lnx S c=true->((((evS cs i).take j).flatMap (λS=>(fol cs S).map λc=>S++[c])++((cs.take m).filter (lnx S)).map λc=>S++[c]).map stT)++[ZP (S.map pairD++[pairD c])]=(((evS cs i).take j).flatMap (λS=>(fol cs S).map λc=>S++[c])++((cs.take (m+1)).filter (lnx S)).map λc=>S++[c]).map stT:=λz=>by
       rw[et,Qae,Ys z,Qp0,Jf (l₁:=(cs.take m).filter (lnx S)),<- Qm8,Jf (l₂:=[c].map λc=>S++[c])];have e2:[ZP (S.map pairD++[pairD c])]=([c].map λc=>S++[c]).map stT:=by
        show _=[ZP ((S++[c]).map pairD)];rw[Jf];rfl
       rw[e2]
      have no:lnx S c=false->(((evS cs i).take j).flatMap (λS=>(fol cs S).map λc=>S++[c])++((cs.take m).filter (lnx S)).map λc=>S++[c]).map stT=(((evS cs i).take j).flatMap (λS=>(fol cs S).map λc=>S++[c])++((cs.take (m+1)).filter (lnx S)).map λc=>S++[c]).map stT:=λz=>by
       rw[et,Qae,Yt (by rw[z];exact Qj),Qp0,Zn]
      have app:((((evS cs i).take j).flatMap (λS=>(fol cs S).map λc=>S++[c])++((cs.take m).filter (lnx S)).map λc=>S++[c]).map stT).length<1000000:=by
       rw[Qe,QC,Qe];omega
      cases ha:S.all λq => !decide (c.1=q.1) && !decide (c.2=q.2) with
      |false=>
       have ln:lnx S c=false:=by unfold lnx;rw[ha];rfl
       exact⟨trivial,_,_,_,rfl,no ln⟩
      |true=>
       refine⟨trivial,?_⟩;have ad:(S.map pairD).length+[pairD c].length<=1000000:=by rw[Qe];show _+1<=_;omega
       refine⟨⟨Qbr _,rfl,.inr (by decide)⟩,?_⟩;cases eS:S.getLast? with
       |none=>
        have ln:lnx S c=true:=by unfold lnx;rw[ha,eS];rfl
        rw[Qas] at eS;subst eS;exact⟨ad,app,_,_,_,rfl,yes ln⟩
       |some d=>
        have ne:Jh (.tuple (S.map pairD)) (.tuple [])=false:=by
         cases S with
         |nil=>cases eS
         |cons a b=>rfl
        refine ifF ne ⟨_,Qj1 eS,Qps ?_⟩;have el:lnx S c=decide (plt d c):=by unfold lnx;rw[ha,eS];rfl
        refine ifC (λz=>?_) λz=>?_
        ·exact⟨ad,app,_,_,_,rfl,yes (by rw[el];exact z)⟩
        ·exact⟨_,_,_,rfl,no (by rw[el];exact z)⟩
    ·rintro δ ⟨ds,x6,x7,rfl,rfl⟩;rw[Qe,JF,ef];exact⟨_,_,_,_,rfl,by rw[e1]⟩
   ·rintro δ ⟨ds,x5,x6,x7,rfl,rfl⟩;rw[Qe,JF];exact⟨_,_,_,_,_,rfl⟩
  ·rintro δ ⟨x3,x4,x5,x6,x7,rfl⟩;rw[Jt];exact hR
theorem Qpf:(["_law_number"]:List Str).Nodup:=by decide +kernel
theorem Qi1:Jd ["_law_pot_here", "_law_most", "_law_stairs_here"] ["_law_pot_here", "_law_most"] (Qo lFew):=⟨rfl,rfl,rfl,by decide +kernel,rfl,by decide +kernel,by decide +kernel⟩
theorem Qsr{f f1 f2  : Addr}{fd fd1 fd2:QB}(F:Fun K "_law_few" "_law_few" lFew f fd)(T:GlbA mg)
  (m1:mg "_law_take" = some (.ref f1))(G1:FnOk P w K mg base CX0 1 f1 fd1 ["_law_pot_here", "_law_far"] (JK true QiH))(b1:Binds K fd1 ["_law_pot_here", "_law_far"] [])(k1:PySem.W.keepIn K (.ref f1)=true)
  (m2:mg "_law_stairs" = some (.ref f2))(G2:FnOk P w K mg base CX0 2 f2 fd2 ["_law_pot_here", "_law_columns", "_law_most"] (JK false Qep))(b2:Binds K fd2 ["_law_pot_here", "_law_columns", "_law_most"] [])(k2:PySem.W.keepIn K (.ref f2)=true) :
  FnOk P w K mg base CX0 3 f fd ["_law_pot_here", "_law_most"] (JK false Qkh):=by
 refine okQ false F Qi1 (λargs R EX h=>?_) (λcdv A outer s H E hr=>?_)
 ·obtain⟨m,rfl,_⟩:=h;rfl
 ·have hU:=Room.u60 hr;have hI:=Room.i60 hr;refine⟨_,QL (ZR 2 (ZC G2 (hr.mono (by decide)) (by rfl) m2 k2 b2 Ze (Qa3 0 (Z2 (JR (Yf ZJ Yw (Jb Jo) (QP (Z6 G1 (hr.mono (by decide)) (by rfl) m1 k1 b1 Ze (Qa3 0 (Z2 Jo JD)))))) (Z2 Jo JD)))) Qi1.nd)
   (QL (QlG Q4 (YB Qo0 Qax (QP (JI (Qfp rfl) QkF (by rfl) T.sum QnL (YE (qp 2) Q1))) (qp 1) (JJ _))
    (Q3 (ZR 2 (JR (Qai ZZ Qby (by rfl) T.tuple YY (YE (QP (QaH ["_law_number"] [none] (QaF (qp 2)) (λcl ex s3 H3 C=>⟨(Zd 0 Qpf rfl (QZ rfl) (QU rfl)),Yo,(JR (JI (Y8 rfl) Qbz (by rfl) T.max QdS (YE (Jb Jo) (YE (QP (Yf Qdz Qfc (qp 0) (Jb Jo))) Q1))))⟩))) Q1))) Qi1.nd)))
   (Q3 (YC (qv 2)))),λargs R EX h=>?_⟩
  obtain⟨m,rfl,m1,m2,hR⟩:=h;refine⟨_,rfl,by decide,by decide,λr r0 r1=>⟨_,rfl,by omega,by omega,λns hs=>?_⟩⟩;refine Qrg (λn δ=>∃ns,δ=[.pot,.v (.int m),.v (tI ns)]/\ZE ns/\ns.sum.toNat=n) _ ⟨ns,rfl,hs,rfl⟩ ?_
  rintro n δ ⟨ns,rfl,hs,hn⟩;have h0:=QiJ λi hi=>(hs.bd i hi).1
  refine QiK ns rfl ?_
  refine ifC (λz=>?_) λz=>?_
  ·have z:m<ns.sum:=of_decide_eq_true z;refine Qa5 (λd=>.int (dn1 (toI d))) (λd hd k2 hk=>?_) ?_
   ·obtain⟨i,_,rfl⟩:=Qs.mp hd;exact QcN (k:=dn1 i) rfl hk
   ·have e:(ns.map Qf).map (λd=>Qf (dn1 (toI d)))=(ns.map dn1).map Qf:=by rw[Je,Je];rfl
    rw[e];have q:=Qne (ns:=ns) λi hi=>(hs.bd i hi).1
    have q2:=q.2 (by omega);have q0:=QiJ (ns:=ns.map dn1) λi hi=>((Qe4 hs).bd i hi).1
    exact⟨_,by omega,_,rfl,Qe4 hs,rfl⟩
  ·have z:ns.sum<=m:=by have:=of_decide_eq_false z;omega
   exact hR ns hs z
end
def hdL(ns:List Int):List Int:=(JN ns.length).map λi=>ns.getD i 0 - (i:Int)
def Qp4(x:Int):List Int->List Int
 |[]=>[x]
 |y::r=>if x<=y then x::y::r else y::Qp4 x r
def Qtt:List Int->List Int
 |[]=>[]
 |x::r=>Qp4 x (Qtt r)
theorem QcR(x:Int):∀l:List Int,(Qp4 x l).Perm (x::l)
 |[]=>.refl _
 |y::r=>by
  unfold Qp4;split
  ·exact .refl _
  ·exact((QcR x r).cons y).trans (.swap _ _ _)
theorem QaE:∀l:List Int,(Qtt l).Perm l
 |[]=>.nil
 |x::r=>(QcR x _).trans ((QaE r).cons x)
theorem Qj9(x:Int):∀l:List Int,l.Pairwise (·<=·)->(Qp4 x l).Pairwise (·<=·)
 |[],_=>Qgw _ _
 |y::r,h=>by
  obtain⟨h1,h2⟩:=List.pairwise_cons.mp h;unfold Qp4;split
  ·rename_i q
   exact .cons (λz hz=>(Qy.mp hz).elim (λe=>e ▸ q) λhz=>Qiu q (h1 z hz)) h
  ·rename_i q
   refine .cons (λz hz=>?_) (Qj9 x r h2);rcases Qy.mp ((QcR x r).mem_iff.mp hz) with e | e
   ·rw[e];omega
   ·exact h1 z e
theorem QfR:∀l:List Int,(Qtt l).Pairwise (·<=·)
 |[]=>.nil
 |x::r=>Qj9 x _ (QfR r)
theorem QiN{a b:List Int}(p:a.Perm b)(h1:a.Pairwise (·<=·))(h2:b.Pairwise (·<=·)):a=b:=List.Perm.eq_of_pairwise (le:=λa b=>a<=b) (λa b _ _ h1 h2=>Int.le_antisymm h1 h2) h1 h2 p
theorem Qkk(ns:List Int):(QcY (ns.map Qf)).map (λd=>match d with | .tuple [.int p,.int n]=>Qf (n - p) | _=>.none)=(hdL ns).map Qf:=by
 unfold QcY hdL;rw[Je,Je,Qe];refine JW λi hi=>?_
 have hi:=JX.mp hi;have e:(ns.map Qf).getD i .none=.int (ns.getD i 0):=by
  rw[QD,Qv,Qg hi,QD,Qg hi];rfl
 show(match ZP [.int i,(ns.map Qf).getD i .none] with | .tuple [.int p,.int n]=>Qf (n - p) | _=>.none)=_;rw[e];rfl
theorem QuK{ns:List Int}(hs:ZE ns){m:Int}(h:m∈hdL ns) : -6<=m/\m<=6:=by
 unfold hdL at h;obtain⟨i,hi,rfl⟩:=Qs.mp h;have hi:=JX.mp hi;have:=hs.bd _ (getD_mem hi);have:=hs.l6;omega
def cwT(a b:List Int)(i k:Nat):Int:=if i<=k then a.getD i 0*b.getD (k - i) 0 else 0
def cwS(a b:List Int):List Int:=(JN (a.length+b.length - 1)).map λk=>QfO a.length λi=>cwT a b i k
def Qpg:DF:=λargs R _=>∃a b:List Int,args=[.v (.list (a.map Qf)),.v (.list (b.map Qf))]/\1<=a.length/\a.length<=500/\1<=b.length/\b.length<=500/\(∀y∈b,-(2^64)<y/\y<2^64)/\R (.list ((cwS a b).map Qf))
def mlR(a b:List Int)(n i j:Nat):List Qa:=(JN n).map λk=>.int (QfO i (λi=>cwT a b i k)+(if i<=k/\k<i+j then a.getD i 0*b.getD (k - i) 0 else 0))
theorem Qel(a b:List Int)(n i j:Nat):(mlR a b n i j).length=n:=by unfold mlR;rw[Qe,Jc]
theorem Qfg(a b:List Int)(n:Nat):(QY n [Qf 0]).flatten=mlR a b n 0 0:=by
 have e:∀n,(QY n [Qf 0]).flatten=QY n (Qf 0):=λn=>by
  induction n with
  |zero=>rfl
  |succ n ih=>rw[Jr,Zj,ih,Jr];rfl
 rw[e];unfold mlR;refine Qdc λk=>?_
 rw[Yr,Qv];by_cases hk:k<n
 ·rw[if_pos hk,Zm hk];show _=some (Qf (0+(if 0<=k/\k<0+0 then _ else 0)));rw[if_neg (by omega)];rfl
 ·rw[if_neg hk,ZU (by rw[Jc];omega)];rfl
theorem QgZ{a b:List Int}{n i j:Nat}(hj:j<b.length)(hn:i+j<n):(mlR a b n i j).set (i+j) (.int (QfO i (λi'=>cwT a b i' (i+j))+(if i<=i+j/\i+j<i+j then a.getD i 0*b.getD (i+j - i) 0 else 0)+a.getD i 0*b.getD j 0))=mlR a b n i (j+1):=by
 refine Qdc λk=>?_
 rw[Qm6,Qel];unfold mlR;by_cases z:i+j=k
 ·subst z;rw[if_pos rfl,if_pos hn,Qv,Zm hn];show some (Qf (QfO i (λi'=>cwT a b i' (i+j))+(if i<=i+j/\i+j<i+j then a.getD i 0*b.getD (i+j - i) 0 else 0)+a.getD i 0*b.getD j 0))=some (Qf (QfO i (λi'=>cwT a b i' (i+j))+(if i<=i+j/\i+j<i+(j+1) then a.getD i 0*b.getD (i+j - i) 0 else 0)));rw[if_neg (by omega),if_pos (by omega),Nat.add_sub_cancel_left,Qiv]
 ·rw[if_neg z,Qv,Qv];by_cases hk:k<n
  ·rw[Zm hk];show some (Qf _)=some (Qf _);have:(i<=k/\k<i+j)↔(i<=k/\k<i+(j+1)):=by omega
   by_cases y:i<=k/\k<i+j
   ·rw[if_pos y,if_pos (this.mp y)]
   ·rw[if_neg y,if_neg λq=>y (this.mpr q)]
  ·rw[ZU (by rw[Jc];omega)];rfl
theorem QjQ{a b:List Int}{n i:Nat}:mlR a b n i b.length=mlR a b n (i+1) 0:=by
 unfold mlR;refine JW λk _=>?_
 show Qf (QfO i (λi=>cwT a b i k)+_)=Qf ((QfO i (λi=>cwT a b i k)+cwT a b i k)+_);rw[if_neg (by omega:¬(i+1<=k/\k<i+1+0))]
 congr 1
 unfold cwT;by_cases y:i<=k
 ·by_cases x:k<i+b.length
  ·rw[if_pos ⟨y,x⟩,if_pos y];omega
  ·rw[if_neg λq=>x q.2,if_pos y,show b.getD (k - i) 0=0 by rw[QD,ZU (by omega)];rfl];omega
 ·rw[if_neg λq=>y q.1,if_neg y];omega
theorem Qh1(ns:List Int):QsT (.list (ns.map Qf))=true:=Q7.mpr λd hd=>by
 obtain⟨i,_,rfl⟩:=Qs.mp hd;rfl
def hdS(ns:List Int):List Int:=Qtt (hdL ns)
def QdM:DF:=λargs R _=>∃ns,args=[.v (tI ns)]/\ZE ns/\R (.list ((hdS ns).map Qf))
def tmS(a b:List Int):List Int:=if a=[]∨b=[] then[] else cwS a b
def YN(n:Int):List Int:=QY n.toNat 1
def prS(m:Int)(hs:List Int)(t:List Int):List Int:=hs.foldl (λt h=>tmS t (YN (m+h))) t
def opL(m:Int)(ns:List Int):List Int:=prS m (hdS ns) [1]
def Qo4:DF:=λargs R _=>∃(ns:List Int)(m:Int),args=[.v (tI ns),.v (.int m)]/\ZE ns/\ns.sum<=20/\0<=m/\m<=8/\R (.list ((opL m ns).map Qf))
def QiE:DF:=λargs R _=>∃a b:List Int,args=[.v (.list (a.map Qf)),.v (.list (b.map Qf))]/\a.length<=500/\b.length<=500/\(∀y∈b,-(2^64)<y/\y<2^64)/\R (.list ((tmS a b).map Qf))
def QjT:DF:=λargs R _=>∃(ns:List Int)(m:Int),args=[.v (tI ns),.v (.int m)]/\ZE ns/\0<=m/\m<=8/\R (.list ((opL m ns).map Qf))
def Qf7:DF:=λargs R _=>∃(ns:List Int)(k:Nat),args=[.v (tI ns),.v (.int k)]/\ZE ns/\k<=ns.length/\R (Qer (stC ns) k)
theorem Qjv(n:Int):(QY n.toNat [Qf 1]).flatten=(YN n).map Qf:=by
 unfold YN;rw[List.map_replicate];generalize n.toNat=k;induction k with
 |zero=>rfl
 |succ k ih=>rw[Jr,Zj,ih,Jr];rfl
theorem Qjb(m:Int):∀hs:List Int,prS m hs []=[]
 |[]=>rfl
 |h::hs=>by
  show prS m hs (tmS [] (YN (m+h)))=[];rw[show tmS [] (YN (m+h))=[] from if_pos (.inl rfl)];exact Qjb m hs
theorem QgO{m h:Int}(hh:m+h<=0):∀{hs:List Int}(t:List Int),h∈hs->prS m hs t=[]
 |x::hs,t,hm=>by
  show prS m hs (tmS t (YN (m+x)))=[];rcases Qy.mp hm with e | e
  ·have:YN (m+x)=[]:=by
    unfold YN;rw[<- e,show(m+h).toNat=0 by omega];rfl
   rw[this,show tmS t []=[] from if_pos (.inr rfl)];exact Qjb m hs
  ·exact QgO hh _ e
theorem Qfk{ns:List Int}(hs:ZE ns){x:Int}(h:x∈hdS ns) : -6<=x/\x<=6:=QuK hs ((QaE _).mem_iff.mp h)
theorem Qgc(ns:List Int):(hdS ns).length=ns.length:=by
 unfold hdS;rw[(QaE _).length_eq];unfold hdL;rw[Qe,Jc]
theorem Qkw(a b:List Int):(cwS a b).length=a.length+b.length - 1:=by unfold cwS;rw[Qe,Jc]
theorem Qcr{m:Int}{hs:List Int}{j:Nat}{h:Int}(e:hs[j]? = some h):prS m (hs.take (j+1)) [1]=tmS (prS m (hs.take j) [1]) (YN (m+h)):=by
 unfold prS;rw[JH,e,List.foldl_append];rfl
theorem Qej{m:Int}(m8:m<=8){hs:List Int}(hb:∀x∈hs,x<=6):∀j,(prS m (hs.take j) [1]).length<=1+14*j
 |0=>by show([1]:List Int).length<=_;simp
 |j+1=>by
  have ih:=Qej m8 hb j;cases e:hs[j]? with
  |none=>
   have:hs.take (j+1)=hs.take j:=by rw[JH,e];simp
   rw[this];omega
  |some h=>
   rw[Qcr e];have hh:=hb h (Qt e);unfold tmS;split
   ·show 0<=_;omega
   ·rw[Qkw];have:(YN (m+h)).length<=14:=by unfold YN;rw[J3];omega
    omega
theorem Qnq{m:Int}{hs:List Int}(hb:∀x∈hs,0<m+x):∀j,prS m (hs.take j) [1]≠[]
 |0=>λe=>nomatch e
 |j+1=>by
  have ih:=Qnq hb j;cases e:hs[j]? with
  |none=>
   have:hs.take (j+1)=hs.take j:=by rw[JH,e];simp
   rw[this];exact ih
  |some h=>
   rw[Qcr e];have hh:=hb h (Qt e);have ho:(YN (m+h)).length≠0:=by unfold YN;rw[J3];omega
   have hne:YN (m+h)≠[]:=λz=>by rw[z] at ho;exact ho rfl
   unfold tmS;rw[if_neg (λz=>z.elim ih hne)];intro z;have l1:=congrArg List.length z;rw[Qkw] at l1;have l1:_+_ - 1=0:=l1;have lp:0<(prS m (hs.take j) [1]).length:=Qk3.mpr ih;omega
section
variable{P:QF}{w:Q9}{K:PySem.W.Frag}{mg:Str->Option Value}{base:JU}
theorem Qfe:(["place", "number"]:List Str).Nodup:=by decide +kernel
theorem Qlu:Jd ["stairs"] ["stairs"] (Qo Qdt):=⟨rfl,rfl,rfl,by decide +kernel,rfl,by decide +kernel,by decide +kernel⟩
theorem Qms{f f1  : Addr}{fd fd1:QB}(F:Fun K "heads" "heads" Qdt f fd)(T:GlbA mg)
  (m1:mg "refuse_no_stairs" = some (.ref f1))(G1:FnOk P w K mg base CX0 4 f1 fd1 ["stairs"] (JK false Qi2))(b1:Binds K fd1 ["stairs"] [])(k1:PySem.W.keepIn K (.ref f1)=true) :
  FnOk P w K mg base CX0 5 f fd ["stairs"] (JK true QdM):=by
 refine okQ true F Qlu (λargs R EX h=>?_) (λcdv A outer s H E hr=>?_)
 ·obtain⟨ns,rfl,_⟩:=h;rfl
 ·have hU:=Room.u60 hr;have hI:=Room.i60 hr;refine⟨_,QL (QbP (Jb (ZC G1 (hr.mono (by decide)) (by rfl) m1 k1 b1 Ze (Z2 (qv 0) JD))))
   (Q3 (Y3 (JI QdR QkG (by rfl) T.sorted Qft (YE (QP (QaH ["place", "number"] [none,none] (Qcp (by rfl) T.enumerate (qp 0)) (λcl ex s3 H3 C=>⟨(Qav rfl (J8 0 (J8 1 Qaw Qfe rfl (QZ rfl) (QU rfl)) Qfe rfl (QZ rfl) (QU rfl))),Yo,(JR (Yf Qdz Qfc (qp 1) (qp 0)))⟩))) Q1)))),λargs R EX h=>?_⟩
  obtain⟨ns,rfl,hs,hR⟩:=h;refine⟨ns,rfl,hs,?_⟩;refine Qa5 (λd=>match d with | .tuple [.int p,.int n]=>.int (n - p) | _=>.none) (λd hd k2 hk=>?_) ?_
  ·obtain⟨i,hi⟩:=Jy.mp hd;obtain⟨e,he,rfl⟩:=ZO hi;obtain⟨m,_,rfl⟩:=Qs.mp (Qt he);exact⟨rfl,hk⟩
  ·rw[Qkk];have l6:=hs.l6;exact(QiP (ds:=(hdL ns).map Qf) (ns:=hdL ns) (QdV _) (by unfold hdL;rw[Qe,Jc];omega) λms pm pw=>by rw[show ms=hdS ns from QiN (pm.trans (QaE _).symm) pw (QfR _)];exact hR).1
theorem QdD:(["_law_place", "_law_number"]:List Str).Nodup:=by decide +kernel
theorem QiY:Jd ["_law_stairs_here"] ["_law_stairs_here"] (Qo QdJ):=⟨rfl,rfl,rfl,by decide +kernel,rfl,by decide +kernel,by decide +kernel⟩
theorem QjE{f   : Addr}{fd  : QB}(F:Fun K "_law_heads" "_law_heads" QdJ f fd)(T:GlbA mg) :
  FnOk P w K mg base CX0 1 f fd ["_law_stairs_here"] (JK true QdM):=by
 refine okQ true F QiY (λargs R EX h=>?_) (λcdv A outer s H E hr=>?_)
 ·obtain⟨ns,rfl,_⟩:=h;rfl
 ·have hU:=Room.u60 hr;have hI:=Room.i60 hr;refine⟨_,Q3 (Y3 (JI QdR QkG (by rfl) T.sorted Qft (YE (QP (QaH ["_law_place", "_law_number"] [none,none] (Qcp (by rfl) T.enumerate (qp 0)) (λcl ex s3 H3 C=>⟨(Qav rfl (J8 0 (J8 1 Qaw QdD rfl (QZ rfl) (QU rfl)) QdD rfl (QZ rfl) (QU rfl))),Yo,(JR (Yf Qdz Qfc (qp 1) (qp 0)))⟩))) Q1))),λargs R EX h=>?_⟩;obtain⟨ns,rfl,hs,hR⟩:=h;refine Qa5 (λd=>match d with | .tuple [.int p,.int n]=>.int (n - p) | _=>.none) (λd hd k2 hk=>?_) ?_
  ·obtain⟨i,hi⟩:=Jy.mp hd;obtain⟨e,he,rfl⟩:=ZO hi;obtain⟨m,_,rfl⟩:=Qs.mp (Qt he);exact⟨rfl,hk⟩
  ·rw[Qkk];have l6:=hs.l6;exact(QiP (ds:=(hdL ns).map Qf) (ns:=hdL ns) (QdV _) (by unfold hdL;rw[Qe,Jc];omega) λms pm pw=>by rw[show ms=hdS ns from QiN (pm.trans (QaE _).symm) pw (QfR _)];exact hR).1
theorem QbJ:Jd ["one", "other", "told", "at", "number", "further", "factor"] ["one", "other"] (Qo QhL):=⟨rfl,rfl,rfl,by decide +kernel,rfl,by decide +kernel,by decide +kernel⟩
theorem Qpa{f   : Addr}{fd  : QB}(F:Fun K "multiplied" "multiplied" QhL f fd)(T:GlbA mg) :
  FnOk P w K mg base CX0 1 f fd ["one", "other"] (JK true Qpg):=by
 refine okQ true F QbJ (λargs R EX h=>?_) (λcdv A outer s H E hr=>?_)
 ·obtain⟨a,b,rfl,_⟩:=h;rfl
 ·have hU:=Room.u60 hr;have hI:=Room.i60 hr;refine⟨_,QL (Qag 2 (Yf QaK Qce (QP (Qah (Qab Jo Q1))) (QP (Yf Qdz Qfc (QP (Yf ZJ Yw (QP (JI ZK QaP (by rfl) T.len YQ (YE (qp 0) Q1))) (QP (JI ZK QaP (by rfl) T.len YQ (YE (qp 1) Q1))))) (Jb Jo)))) QbJ.nd)
   (QL (YD Q4 rfl (Qcq (by rfl) T.enumerate (qv 0)) (Qav rfl (J8 3 (J8 4 Qaw QbJ.nd rfl (by first | exact QZ rfl | exact QU rfl)) QbJ.nd rfl (by first | exact QZ rfl | exact QU rfl)))
    (Q3 (YD Q4 rfl (Qcq (by rfl) T.enumerate (qv 1)) (Qav rfl (J8 5 (J8 6 Qaw QbJ.nd rfl (by first | exact QZ rfl | exact QU rfl)) QbJ.nd rfl (by first | exact QZ rfl | exact QU rfl)))
    (Q3 (Qoi 2 QsM Qpc (QP (Yf ZJ Yw (qp 3) (qp 5))) (QP (Yf QaK Qce (qp 4) (qp 6))))))))
   (Q3 (Qeh 2))),λargs R EX h=>?_⟩
  obtain⟨a,b,rfl,a1,a5,b1,b5,hb,hR⟩:=h;have la:=Qtx a;have lb:=Qtx b;refine⟨⟨by omega,by omega,by show 1*_<=_;omega⟩,?_⟩;have en:(((a.map Qf).length:Int)+((b.map Qf).length:Int) - 1).toNat=a.length+b.length - 1:=by omega
  rw[en,Qfg a b];refine Zt (λi δ=>∃x3 x4 x5 x6,δ=[.v (.list (a.map Qf)),.v (.list (b.map Qf)),.own (mlR a b (a.length+b.length - 1) i 0),x3,x4,x5,x6]) ⟨_,_,_,_,rfl⟩ ?_ ?_
  ·rintro i d δ hd ⟨x3,x4,x5,x6,rfl⟩;obtain⟨e,he,rfl⟩:=ZO hd;rw[Qv] at he;obtain⟨x,ex,rfl⟩:∃x,a[i]? = some x/\e=.int x:=by
    cases z:a[i]? with
    |none=>rw[z] at he;cases he
    |some x=>rw[z] at he;cases he;exact⟨x,rfl,rfl⟩
   have hi:i<a.length:=(Qr.mp ex).1;have gx:a.getD i 0=x:=by rw[QD,ex];rfl
   refine⟨rfl,Zt (λj δ=>∃x5 x6,δ=[.v (.list (a.map Qf)),.v (.list (b.map Qf)),.own (mlR a b (a.length+b.length - 1) i j),.v (.int i),.v (.int x),x5,x6]) ⟨_,_,rfl⟩ ?_ ?_⟩
   ·rintro j d δ hd2 ⟨x5,x6,rfl⟩;obtain⟨e,he2,rfl⟩:=ZO hd2;rw[Qv] at he2;obtain⟨y,ey,rfl⟩:∃y,b[j]? = some y/\e=.int y:=by
     cases z:b[j]? with
     |none=>rw[z] at he2;cases he2
     |some x=>rw[z] at he2;cases he2;exact⟨x,rfl,rfl⟩
    have hj:j<b.length:=(Qr.mp ey).1;have gy:b.getD j 0=y:=by rw[QD,ey];rfl
    have hn:i+j<a.length+b.length - 1:=by omega
    have by_:=hb y (Qt ey);refine⟨rfl,i+j,.int (QfO i (λi'=>cwT a b i' (i+j))+(if i<=i+j/\i+j<i+j then a.getD i 0*b.getD (i+j - i) 0 else 0)),?_,?_,.inl (.inr by_),.v (.int j),.v (.int y),?_⟩
    ·rw[Qel,<- QeS];exact Qj5 hn
    ·unfold mlR;rw[Qv,Zm hn];rfl
    ·rw[<- QgZ hj hn,gx,gy];rfl
   ·rintro δ ⟨x5,x6,rfl⟩;rw[YI,lb,QjQ];exact⟨_,_,_,_,rfl⟩
  ·rintro δ ⟨x3,x4,x5,x6,rfl⟩;rw[YI,la];have e:mlR a b (a.length+b.length - 1) a.length 0=(cwS a b).map Qf:=by
    unfold mlR cwS;rw[Je];refine JW λk _=>?_
    show Qf (QfO a.length (λi=>cwT a b i k)+(if a.length<=k/\k<a.length+0 then a.getD a.length 0*b.getD (k - a.length) 0 else 0))=Qf (QfO a.length λi=>cwT a b i k);rw[if_neg (by omega),Qiv]
   rw[e];exact hR
end
section
variable{P:QF}{w:Q9}{K:PySem.W.Frag}{mg:Str->Option Value}{base:JU}
theorem Qmw:(["head", "number"]:List Str).Nodup:=by decide +kernel
theorem QcD:Jd ["stairs", "number", "lengths", "told", "length"] ["stairs", "number"] (Qo QhK):=⟨rfl,rfl,rfl,by decide +kernel,rfl,by decide +kernel,by decide +kernel⟩
theorem Qo9{f f1 f2 f3 f4  : Addr}{fd fd1 fd2 fd3 fd4:QB}(hC:∃t,mg "MOST_ADDED" = some (.int 8 t))(F:Fun K "ones_product" "ones_product" QhK f fd)(T:GlbA mg)
  (m1:mg "refuse_too_many" = some (.ref f1))(G1:FnOk P w K mg base CX0 5 f1 fd1 ["stairs"] (JK false QlD))(b1:Binds K fd1 ["stairs"] [])(k1:PySem.W.keepIn K (.ref f1)=true)
  (m2:mg "is_whole_within" = some (.ref f2))(G2:FnOk P w K mg base CX0 2 f2 fd2 ["thing", "least", "most"] (JK false QcA))(b2:Binds K fd2 ["thing", "least", "most"] [])(k2:PySem.W.keepIn K (.ref f2)=true)
  (m3:mg "heads" = some (.ref f3))(G3:FnOk P w K mg base CX0 5 f3 fd3 ["stairs"] (JK true QdM))(b3:Binds K fd3 ["stairs"] [])(k3:PySem.W.keepIn K (.ref f3)=true)
  (m4:mg "multiplied" = some (.ref f4))(G4:FnOk P w K mg base CX0 1 f4 fd4 ["one", "other"] (JK true Qpg))(b4:Binds K fd4 ["one", "other"] [])(k4:PySem.W.keepIn K (.ref f4)=true) :
  FnOk P w K mg base CX0 6 f fd ["stairs", "number"] (JK true Qo4):=by
 refine okQ true F QcD (λargs R EX h=>?_) (λcdv A outer s H E hr=>?_)
 ·obtain⟨ns,m,rfl,_⟩:=h;rfl
 ·obtain⟨tC,mC⟩:=hC;have hU:=Room.u60 hr;have hI:=Room.i60 hr;refine⟨_,QL (QbP (Jb (ZC G1 (hr.mono (by decide)) (by rfl) m1 k1 b1 Ze (Z2 (qv 0) JD))))
   (QL (QcH (QcG (QcF (Jb (ZC G2 (hr.mono (by decide)) (by rfl) m2 k2 b2 Ze (Z2 (qv 1) (Z2 Jo (Z2 (QgL 8 (by rfl) mC ⟨_,rfl⟩) JD))))))) Qbp YL)
   (QL (Qei ["head", "number"] [none,some 1] 2 QcD.nd (QaG (QP (Z6 G3 (hr.mono (by decide)) (by rfl) m3 k3 b3 Ze (Z2 (qv 0) JD)))) (λcl ex s3 H3 C=>⟨(Zd 0 Qmw rfl (QZ rfl) (QU rfl)),Yo,(JR (Yf ZJ Yw (qp 1) (qp 0)))⟩))
   (QL (QcH (YB Qf1 Qax (QP (JI (QkL rfl) QpM (by rfl) T.min Qhl (YE (qp 2) Q1))) (Jb Jo) (JJ _)) (Q3 (Y3 (Qah Q1))) YL)
   (QL (Qag 3 (Qah (Qab Jo Q1)) QcD.nd)
   (QL (YD Q4 rfl (QaG (qv 2)) (Zd 4 QcD.nd rfl (by first | exact QZ rfl | exact QU rfl))
    (Q3 (Qag 3 (Qoo G4 (hr.mono (by decide)) (by rfl) m4 k4 b4 Ze (YE (qp 3) (YE (QP (Yf QaK Qce (QP (Qah (Qab Jo Q1))) (qp 4))) Q1))) QcD.nd)))
   (Q3 (Qeh 3))))))),λargs R EX h=>?_⟩
  obtain⟨ns,m,rfl,hs,h20,m0,m8,hR⟩:=h;refine⟨ns,rfl,hs,h20,_,_,_,rfl,?_⟩;rw[show inW (.int m) 0 8=true from Qpr m0 m8];refine⟨ns,rfl,hs,Qa5 (λd=>.int (m+toI d)) (λd hd k2 hk=>?_) ?_⟩
  ·obtain⟨i,_,rfl⟩:=Qs.mp hd;exact hk
  have e:((hdS ns).map Qf).map (λd=>Qf (m+toI d))=((hdS ns).map λh=>m+h).map Qf:=by rw[Je,Je];rfl
  rw[e];have l1:=hs.l1;have l6:=hs.l6;have lh:=Qgc ns;refine Qpi ((hdS ns).map λh=>m+h) rfl (by rw[Qe];omega) λv hv hl=>?_
  refine ifC (λz=>?_) λz=>?_
  ·obtain⟨h,hh,rfl⟩:=Qs.mp hv;have:opL m ns=[]:=QgO (of_decide_eq_true z) _ hh;rw[this] at hR;exact hR
  ·have pos:∀x∈hdS ns,0<m+x:=λx hx=>by
    have h1:=hl _ (Y4 (f:=λh=>m+h) hx);have h2:=of_decide_eq_false z;omega
   refine Zt (λj δ=>∃x4,δ=[.v (tI ns),.v (.int m),.v (.list (((hdS ns).map λh=>m+h).map Qf)),.own ((prS m ((hdS ns).take j) [1]).map Qf),x4]) ⟨_,rfl⟩ ?_ ?_
   ·rintro j d δ hd ⟨x4,rfl⟩;rw[Qv,Qv] at hd;obtain⟨h,eh,rfl⟩:∃h,(hdS ns)[j]? = some h/\d=.int (m+h):=by
     cases q:(hdS ns)[j]? with
     |none=>rw[q] at hd;cases hd
     |some p=>rw[q] at hd;cases hd;exact⟨p,rfl,rfl⟩
    have hj:j<(hdS ns).length:=(Qr.mp eh).1;have hm:=Qt eh;have bd:=Qfk hs hm;have p0:=pos h hm;have pl:=Qej (m:=m) m8 (λx hx=>(Qfk hs hx).2) j;have pne:=Qnq pos j;have pn:=Qk3.mpr pne;have lo:(YN (m+h)).length=(m+h).toNat:=by unfold YN;rw[J3]
    have one:YN (m+h)≠[]:=λz=>by rw[z] at lo;have lo:0=(m+h).toNat:=lo;omega
    refine⟨⟨by omega,by omega,by show 1*_<=_;omega⟩,prS m ((hdS ns).take j) [1],YN (m+h),?_,by omega,by omega,by omega,by omega,λy hy=>?_,Qh1 _,.v (.int (m+h)),?_⟩
    ·rw[Qjv];rfl
    ·rw[QfL hy];decide
    ·rw[Qcr eh,show tmS (prS m ((hdS ns).take j) [1]) (YN (m+h))=cwS (prS m ((hdS ns).take j) [1]) (YN (m+h)) from if_neg λz=>z.elim pne one];rfl
   ·rintro δ ⟨x4,rfl⟩;rw[Qe,Qe,JF];exact hR
end
section
variable{P:QF}{w:Q9}{K:PySem.W.Frag}{mg:Str->Option Value}{base:JU}
theorem QaS:Jd ["_law_one", "_law_other", "_law_found", "_law_place", "_law_number", "_law_spot", "_law_more"] ["_law_one", "_law_other"] (Qo QdH):=⟨rfl,rfl,rfl,by decide +kernel,rfl,by decide +kernel,by decide +kernel⟩
theorem Qmm{f   : Addr}{fd  : QB}(F:Fun K "_law_times" "_law_times" QdH f fd)(T:GlbA mg) :
  FnOk P w K mg base CX0 1 f fd ["_law_one", "_law_other"] (JK true QiE):=by
 refine okQ true F QaS (λargs R EX h=>?_) (λcdv A outer s H E hr=>?_)
 ·obtain⟨a,b,rfl,_⟩:=h;rfl
 ·have hU:=Room.u60 hr;have hI:=Room.i60 hr;refine⟨_,QL (Qag 2 (Yf QaK Qce (QP (Yf QaK Qce (QP (Qah (Qab Jo Q1))) (QP (JI (Y8 rfl) Qbz (by rfl) T.max QdS (YE (Jb Jo) (YE (QP (Yf Qdz Qfc (QP (Yf ZJ Yw (QP (JI ZK QaP (by rfl) T.len YQ (YE (qp 0) Q1))) (QP (JI ZK QaP (by rfl) T.len YQ (YE (qp 1) Q1))))) (Jb Jo))) Q1)))))) (QP (Qai Qfs QnJ (by rfl) T.int QdT (YE (Jb (Qdh (QP (Qbq QgS (Qmu hU) (qp 0) (QP (Qah Q1)) (JJ _))) (QcI (JR (Qbq QgS (Qmu hU) (qp 1) (QP (Qah Q1)) (JJ _)))))) Q1)))) QaS.nd)
   (QL (YD Q4 rfl (Qcq (by rfl) T.enumerate (qv 0)) (Qav rfl (J8 3 (J8 4 Qaw QaS.nd rfl (by first | exact QZ rfl | exact QU rfl)) QaS.nd rfl (by first | exact QZ rfl | exact QU rfl)))
    (Q3 (YD Q4 rfl (Qcq (by rfl) T.enumerate (qv 1)) (Qav rfl (J8 5 (J8 6 Qaw QaS.nd rfl (by first | exact QZ rfl | exact QU rfl)) QaS.nd rfl (by first | exact QZ rfl | exact QU rfl)))
    (Q3 (QrL 2 (JR (Yf ZJ Yw (Jb (Qcj Zx YA (qp 2) (QP (Yf ZJ Yw (qp 3) (qp 5))) (λ_ _=>rfl))) (QP (Yf QaK Qce (qp 4) (qp 6))))) (QP (Yf ZJ Yw (qp 3) (qp 5))))))))
   (Q3 (Qeh 2))),λargs R EX h=>?_⟩
  obtain⟨a,b,rfl,a5,b5,hb,hR⟩:=h;have la:=Qtx a;have lb:=Qtx b;refine QcN (k:=((a.length+b.length - 1:Nat):Int)) (by rw[la,lb];split<;>omega) ⟨⟨by omega,by omega,by show 1*_<=_;omega⟩,?_⟩;rw[Jt,Qfg a b];refine⟨⟨Qct _,rfl,.inr (by decide)⟩,?_⟩;cases a with
  |nil=>
   refine⟨⟨by decide,by decide,Jn _⟩,Zt (λ_ δ=>∃x3 x4 x5 x6,δ=[.v (.list []),.v (.list (b.map Qf)),.own [],x3,x4,x5,x6]) ⟨_,_,_,_,rfl⟩ ?_ ?_⟩
   ·rintro i d δ hd ⟨x3,x4,x5,x6,rfl⟩;obtain⟨e,he,_⟩:=ZO hd;cases he
   ·rintro δ ⟨x3,x4,x5,x6,rfl⟩;rw[show tmS [] b=[] from if_pos (.inl rfl)] at hR;exact hR
  |cons x0 a0=>
   refine⟨⟨Qct _,rfl,.inr (by decide)⟩,?_⟩;cases b with
   |nil=>
    refine⟨⟨by decide,by decide,Jn _⟩,Zt (λ_ δ=>∃x3 x4 x5 x6,δ=[.v (.list ((x0::a0).map Qf)),.v (.list []),.own [],x3,x4,x5,x6]) ⟨_,_,_,_,rfl⟩ ?_ ?_⟩
    ·rintro i d δ hd ⟨x3,x4,x5,x6,rfl⟩;obtain⟨e,he,rfl⟩:=ZO hd;refine⟨rfl,Zt (λ_ δ=>∃x3 x4 x5 x6,δ=[.v (.list ((x0::a0).map Qf)),.v (.list []),.own [],x3,x4,x5,x6]) ⟨_,_,_,_,rfl⟩ ?_ ?_⟩
     ·rintro j d δ hd ⟨x3,x4,x5,x6,rfl⟩;obtain⟨e,he,_⟩:=ZO hd;cases he
     ·rintro δ ⟨x3,x4,x5,x6,rfl⟩;exact⟨_,_,_,_,rfl⟩
    ·rintro δ ⟨x3,x4,x5,x6,rfl⟩;rw[show tmS (x0::a0) []=[] from if_pos (.inr rfl)] at hR;exact hR
   |cons y0 b0=>
    rw[show tmS (x0::a0) (y0::b0)=cwS (x0::a0) (y0::b0) from if_neg (by simp)] at hR;have ml:=Qel (x0::a0) (y0::b0) ((x0::a0).length+(y0::b0).length - 1) 0 0;refine⟨⟨show(1:Int)<1000000 by decide,show(-1000000:Int)<1 by decide,by rw[ml];show _*1<=_;omega⟩,?_⟩;have a1:1<=(x0::a0).length:=by rw[QK];omega
    have b1:1<=(y0::b0).length:=by rw[QK];omega
    rw[show(QY (if(!(Qdl (List.map Qf (y0::b0))).eqv (Qdl []))=true then(1:Int) else 0).toNat (mlR (x0::a0) (y0::b0) ((x0::a0).length+(y0::b0).length - 1) 0 0)).flatten=mlR (x0::a0) (y0::b0) ((x0::a0).length+(y0::b0).length - 1) 0 0 from Zn _];generalize x0::a0=a at *;generalize y0::b0=b at *;refine Zt (λi δ=>∃x3 x4 x5 x6,δ=[.v (.list (a.map Qf)),.v (.list (b.map Qf)),.own (mlR a b (a.length+b.length - 1) i 0),x3,x4,x5,x6]) ⟨_,_,_,_,rfl⟩ ?_ ?_
    ·rintro i d δ hd ⟨x3,x4,x5,x6,rfl⟩;obtain⟨e,he,rfl⟩:=ZO hd;rw[Qv] at he;obtain⟨x,ex,rfl⟩:∃x,a[i]? = some x/\e=.int x:=by
      cases z:a[i]? with
      |none=>rw[z] at he;cases he
      |some x=>rw[z] at he;cases he;exact⟨x,rfl,rfl⟩
     have hi:i<a.length:=(Qr.mp ex).1;have gx:a.getD i 0=x:=by rw[QD,ex];rfl
     refine⟨rfl,Zt (λj δ=>∃x5 x6,δ=[.v (.list (a.map Qf)),.v (.list (b.map Qf)),.own (mlR a b (a.length+b.length - 1) i j),.v (.int i),.v (.int x),x5,x6]) ⟨_,_,rfl⟩ ?_ ?_⟩
     ·rintro j d δ hd2 ⟨x5,x6,rfl⟩;obtain⟨e,he2,rfl⟩:=ZO hd2;rw[Qv] at he2;obtain⟨y,ey,rfl⟩:∃y,b[j]? = some y/\e=.int y:=by
       cases z:b[j]? with
       |none=>rw[z] at he2;cases he2
       |some x=>rw[z] at he2;cases he2;exact⟨x,rfl,rfl⟩
      have hj:j<b.length:=(Qr.mp ey).1;have gy:b.getD j 0=y:=by rw[QD,ey];rfl
      have hn:i+j<a.length+b.length - 1:=by omega
      have by_:=hb y (Qt ey);have gm:(mlR a b (a.length+b.length - 1) i j)[i+j]? = some (.int (QfO i (λi'=>cwT a b i' (i+j))+(if i<=i+j/\i+j<i+j then a.getD i 0*b.getD (i+j - i) 0 else 0))):=by
       unfold mlR;rw[Qv,Zm hn];rfl
      refine⟨rfl,.int (QfO i (λi'=>cwT a b i' (i+j))+(if i<=i+j/\i+j<i+j then a.getD i 0*b.getD (i+j - i) 0 else 0)),by rw[<- QeS];exact Zk gm,.inl (.inr by_),i+j,?_,.v (.int j),.v (.int y),?_⟩
      ·rw[Qel,<- QeS];exact Qj5 hn
      ·rw[<- QgZ hj hn,gx,gy];rfl
     ·rintro δ ⟨x5,x6,rfl⟩;rw[YI,lb,QjQ];exact⟨_,_,_,_,rfl⟩
    ·rintro δ ⟨x3,x4,x5,x6,rfl⟩;rw[YI,la];have e:mlR a b (a.length+b.length - 1) a.length 0=(cwS a b).map Qf:=by
      unfold mlR cwS;rw[Je];refine JW λk _=>?_
      show Qf (QfO a.length (λi=>cwT a b i k)+(if a.length<=k/\k<a.length+0 then a.getD a.length 0*b.getD (k - a.length) 0 else 0))=Qf (QfO a.length λi=>cwT a b i k);rw[if_neg (by omega),Qiv]
     rw[e];exact hR
theorem Qco:Jd ["_law_stairs_here", "_law_number", "_law_found", "_law_head"] ["_law_stairs_here", "_law_number"] (Qo QhX):=⟨rfl,rfl,rfl,by decide +kernel,rfl,by decide +kernel,by decide +kernel⟩
theorem Qmp{f f1 f2  : Addr}{fd fd1 fd2:QB}(F:Fun K "_law_product" "_law_product" QhX f fd)(T:GlbA mg)
  (m1:mg "_law_heads" = some (.ref f1))(G1:FnOk P w K mg base CX0 1 f1 fd1 ["_law_stairs_here"] (JK true QdM))(b1:Binds K fd1 ["_law_stairs_here"] [])(k1:PySem.W.keepIn K (.ref f1)=true)
  (m2:mg "_law_times" = some (.ref f2))(G2:FnOk P w K mg base CX0 1 f2 fd2 ["_law_one", "_law_other"] (JK true QiE))(b2:Binds K fd2 ["_law_one", "_law_other"] [])(k2:PySem.W.keepIn K (.ref f2)=true) :
  FnOk P w K mg base CX0 2 f fd ["_law_stairs_here", "_law_number"] (JK false QjT):=by
 refine okQ false F Qco (λargs R EX h=>?_) (λcdv A outer s H E hr=>?_)
 ·obtain⟨ns,m,rfl,_⟩:=h;rfl
 ·have hU:=Room.u60 hr;have hI:=Room.i60 hr;refine⟨_,QL (ZR 2 (JR (Qah (Qab Jo Q1))) Qco.nd)
   (QL (YD Q4 rfl (QaG (JR (Z6 G1 (hr.mono (by decide)) (by rfl) m1 k1 b1 Ze (Z2 (qv 0) JD)))) (Zd 3 Qco.nd rfl (by first | exact QZ rfl | exact QU rfl))
    (Q3 (ZR 2 (JR (Z6 G2 (hr.mono (by decide)) (by rfl) m2 k2 b2 Ze (Z2 (qv 2) (Z2 (JR (Yf QaK Qce (QP (Qah (Qab Jo Q1))) (QP (JI (Y8 rfl) Qbz (by rfl) T.max QdS (YE (Jb Jo) (YE (QP (Yf ZJ Yw (qp 1) (qp 3))) Q1)))))) JD)))) Qco.nd)))
   (Q3 (YC (qv 2)))),λargs R EX h=>?_⟩
  obtain⟨ns,m,rfl,hs,m0,m8,hR⟩:=h;have l1:=hs.l1;have l6:=hs.l6;have lh:=Qgc ns;refine⟨ns,rfl,hs,Zt (λj δ=>∃x3,δ=[.v (tI ns),.v (.int m),.v (.list ((prS m ((hdS ns).take j) [1]).map Qf)),x3]) ⟨_,rfl⟩ ?_ ?_⟩
  ·rintro j d δ hd ⟨x3,rfl⟩;rw[Qv] at hd;obtain⟨h,eh,rfl⟩:∃h,(hdS ns)[j]? = some h/\d=.int h:=by
    cases q:(hdS ns)[j]? with
    |none=>rw[q] at hd;cases hd
    |some p=>rw[q] at hd;cases hd;exact⟨p,rfl,rfl⟩
   have hj:j<(hdS ns).length:=(Qr.mp eh).1;have hm:=Qt eh;have bd:=Qfk hs hm;have pl:=Qej (m:=m) m8 (λx hx=>(Qfk hs hx).2) j;have lo:(YN (m+h)).length=(m+h).toNat:=by unfold YN;rw[J3]
   refine QcN (k:=((m+h).toNat:Int)) (by split<;>omega) ⟨⟨by omega,by omega,by show 1*_<=_;omega⟩,prS m ((hdS ns).take j) [1],YN (m+h),?_,by omega,by omega,λy hy=>?_,.v (.int h),?_⟩
   ·rw[Jt,Qjv]
   ·rw[QfL hy];decide
   ·rw[Qcr eh];rfl
  ·rintro δ ⟨x3,rfl⟩;rw[Qe,JF];exact hR
end
def prW(cs L:List (Int×Int)):Qa:=.tuple [.int ((wt cs L:Nat):Int),stT L]
def stW:Qa->List (Int×Int)
 |.tuple ds=>ds.map toP
 |_=>[]
theorem Qng(L:List (Int×Int)):stW (stT L)=L:=by
 show(L.map pairD).map toP=L;rw[Je]
 conv=>rhs;rw[<- Qb8 L]
 exact JW λp _=>rfl
def prD(cs:List (Int×Int))(d:Qa):Qa:=.tuple [.int ((wt cs (stW d):Nat):Int),d]
theorem Qn5(cs:List (Int×Int))(Ls:List (List (Int×Int))):Qap (Ls.map (prW cs)):=⟨λx hx y hy=>by
  obtain⟨L,hL,rfl⟩:=Qs.mp hx;obtain⟨M,hM,rfl⟩:=Qs.mp hy;show(true&&(Qk6 (stT L) (stT M)&&true))=true;rw[(QcB Ls).cmp _ (Y4 hL) _ (Y4 hM)];rfl,λx hx=>by
  obtain⟨L,hL,rfl⟩:=Qs.mp hx;have h1:=Qak (n:=1) (ds:=L.map pairD) λd hd=>by obtain⟨p,_,rfl⟩:=Qs.mp hd;exact QcZ p
  show Ji [.int _,.tuple (L.map pairD)]+1<=20;have h2:=Qak (n:=2) (ds:=[.int ((wt cs L:Nat):Int),.tuple (L.map pairD)]) λd hd=>by
   rcases Qy.mp hd with z | z
   ·rw[z];unfold Jx;omega
   ·rw[Q0.mp z];show Ji (L.map pairD)+1<=2;omega
  omega⟩
theorem QrV{cs L M:List (Int×Int)}(h:ltD (prW cs M) (prW cs L)=false):wt cs L<=wt cs M/\(wt cs M=wt cs L->¬QjZ M L):=by
 have h:isL (thn (QeO ((wt cs M:Nat):Int) ((wt cs L:Nat):Int)) (thn (QaW (stT M) (stT L)) .eq))=false:=h;unfold QeO at h;by_cases z:((wt cs M:Nat):Int)<((wt cs L:Nat):Int)
 ·rw[if_pos z] at h;cases h
 ·refine⟨by omega,λe l=>?_⟩;rw[if_neg z,if_pos (by rw[e])] at h;have q:=(QjS M L).mpr l;unfold ltD at q;have h:isL (thn (QaW (stT M) (stT L)) .eq)=false:=h;cases w:QaW (stT M) (stT L) with
  |lt=>rw[w] at h;cases h
  |eq=>rw[w] at q;cases q
  |gt=>rw[w] at q;cases q
theorem Qsy{cs:List (Int×Int)}{k:Nat}{L:List (Int×Int)}(hp:cs.Pairwise plt)(h0:∀p∈cs,0<=p.1)(hL:L∈evS cs k)(hm:∀M∈evS cs k,ltD (prW cs M) (prW cs L)=false):Qer cs k=stT L:=by
 obtain⟨j,hj,e⟩:=List.getElem_of_mem hL;obtain⟨b1,b2,b3⟩:=Qfu (wtV cs k) ((evS cs k).length - 1);have at_:∀i (h:i<(evS cs k).length),wtV cs k i=((wt cs (evS cs k)[i]:Nat):Int):=λi h=>by
  unfold wtV;rw[QD,Qg h];rfl
 have hb:bstI (wtV cs k) ((evS cs k).length - 1)<(evS cs k).length:=by omega
 have eb:=at_ _ hb;have ej:=at_ j hj;rw[e] at ej;have l1:=b2 j (by omega);obtain⟨p1,p2⟩:=QrV (hm _ (Qa1 hb));have we:wt cs (evS cs k)[bstI (wtV cs k) ((evS cs k).length - 1)]=wt cs L:=by omega
 have nl:=p2 we;have so:=QfE.mp (QcX hp h0 k);have same:j=bstI (wtV cs k) ((evS cs k).length - 1):=by
  rcases QnW j (bstI (wtV cs k) ((evS cs k).length - 1)) with z | z | z
  ·have:=b3 j z;omega
  ·exact z
  ·exact absurd (by rw[<- e];exact so _ _ hb hj z) nl
 unfold Qer QmF;rw[<- same,Qg hj,e]
section
variable{P:QF}{w:Q9}{K:PySem.W.Frag}{mg:Str->Option Value}{base:JU}
theorem QhS:(["_law_stand", "_law_board"]:List Str).Nodup:=by decide +kernel
theorem QcE:Jd ["_law_stairs_here", "_law_size", "_law_board", "_law_some"] ["_law_stairs_here", "_law_size"] (Qo QdI):=⟨rfl,rfl,rfl,by decide +kernel,rfl,by decide +kernel,by decide +kernel⟩
theorem QjD{f f1 f2 f3  : Addr}{fd fd1 fd2 fd3:QB}(F:Fun K "_law_lightest" "_law_lightest" QdI f fd)(T:GlbA mg)
  (m1:mg "_law_stair_board" = some (.ref f1))(G1:FnOk P w K mg base CX0 1 f1 fd1 ["_law_stairs_here"] (JK false Qeq))(b1:Binds K fd1 ["_law_stairs_here"] [])(k1:PySem.W.keepIn K (.ref f1)=true)
  (m2:mg "_law_left" = some (.ref f2))(G2:FnOk P w K mg base CX0 1 f2 fd2 ["_law_board", "_law_stand"] (JK false QjV))(b2:Binds K fd2 ["_law_board", "_law_stand"] [])(k2:PySem.W.keepIn K (.ref f2)=true)
  (m3:mg "_law_stands" = some (.ref f3))(G3:FnOk P w K mg base CX0 1 f3 fd3 ["_law_board", "_law_size"] (JK false lev))(b3:Binds K fd3 ["_law_board", "_law_size"] [])(k3:PySem.W.keepIn K (.ref f3)=true) :
  FnOk P w K mg base CX0 2 f fd ["_law_stairs_here", "_law_size"] (JK false Qf7):=by
 refine okQ false F QcE (λargs R EX h=>?_) (λcdv A outer s H E hr=>?_)
 ·obtain⟨ns,k,rfl,_⟩:=h;rfl
 ·have hU:=Room.u60 hr;have hI:=Room.i60 hr;refine⟨_,QL (ZR 2 (ZC G1 (hr.mono (by decide)) (by rfl) m1 k1 b1 Ze (Z2 (qv 0) JD)) QcE.nd)
   (QL (Qei ["_law_stand", "_law_board"] [none,some 2] 3 QcE.nd (QaG (Jb (ZC G3 (hr.mono (by decide)) (by rfl) m3 k3 b3 Ze (Z2 (qv 2) (Z2 (qv 1) JD))))) (λcl ex s3 H3 C=>⟨(Zd 0 QhS rfl (QZ rfl) (QU rfl)),Yo,(JR (Qaz (Qab (JR (JI ZK QaP (by rfl) T.len YQ (YE (Jb (ZC G2 (hr.mono (by decide)) (by rfl) m2 k2 b2 Ze (Z2 (qv 1) (Z2 (qv 0) JD)))) Q1))) (Qab (qv 0) Q1))))⟩))
   (Q3 (YC (QrQ (YB QaL (QcK hU) (qp 3) (QP (Qah Q1)) (JJ _)) QrO (Qcj Zx YA (QP (JI (QkM rfl hU) QpN (by rfl) T.min Qhl (YE (qp 3) Q1))) (Jb Jo) (λ_ _=>rfl)))))),λargs R EX h=>?_⟩
  obtain⟨ns,k,rfl,hs,hk,hR⟩:=h;have g:=QcS hs;have h6:=hs.l6;have hc:=QfQ hs;refine⟨ns,rfl,hs,_,_,_,_,rfl,g,by omega,Qa5 (λd=>prD (stC ns) d) (λd hd k2 hk=>?_) ?_⟩
  ·obtain⟨L,hL,rfl⟩:=Qs.mp hd;have lL:=((Qbu g.r0 k L).mp hL).2;have hk:k2 (prD (stC ns) (stT L)):=hk;unfold prD at hk;rw[Qng] at hk;have lw:(((stC ns).filter (Qet L)).map pairD).length=wt (stC ns) L:=Qe _;rw[<- lw] at hk;exact⟨_,_,_,_,rfl,by omega,by omega,hk⟩
  ·have e:((evS (stC ns) k).map stT).map (λd=>prD (stC ns) d)=(evS (stC ns) k).map (prW (stC ns)):=by
    rw[Je];refine JW λL _=>?_
    show prD (stC ns) (stT L)=_;unfold prD prW;rw[Qng]
   rw[e];refine⟨⟨Qf5.mpr λd hd=>?_,rfl,.inr (by decide)⟩,?_⟩
   ·obtain⟨L,_,rfl⟩:=Qs.mp hd;show(nds (L.map pairD)&&true)=true;rw[Qbr];rfl
   have lg:∀L,L∈evS (stC ns) k->(∀M∈evS (stC ns) k,ltD (prW (stC ns) M) (prW (stC ns) L)=false)->Qer (stC ns) k=stT L:=λL h1 h2=>Qsy g.srt g.r0 h1 h2
   have ln:evS (stC ns) k=[]->Qer (stC ns) k=.none:=λz=>by unfold Qer QmF;rw[z];rfl
   generalize evS (stC ns) k=Ls at *;cases Ls with
   |nil=>
    rw[ln rfl] at hR;exact hR
   |cons L0 r=>
    refine Qph (Qn5 (stC ns) (L0::r)) (by rw[Qe,QK];omega) λm hm hml=>?_
    obtain⟨L,hL,rfl⟩:=Qs.mp hm;refine⟨_,Zk (j:=1) rfl,?_⟩;rw[lg L hL λM hM=>hml _ (Y4 hM)] at hR;exact hR
end
theorem QmE{cs:List (Int×Int)}{k:Nat}(h0:∀p∈cs,0<=p.1)(k6:k<=6):nd (Qer cs k)=true/\Qck 2 (Qer cs k)=true:=by
 unfold Qer;cases e:QmF cs k with
 |none=>exact⟨rfl,rfl⟩
 |some L=>
  unfold QmF at e;have lL:=((Qbu h0 k L).mp (Qt e)).2;refine⟨Qbr L,?_⟩;show(decide ((L.map pairD).length<=1000)&&(L.map pairD).all (Qck 1))=true;rw[decide_eq_true (by rw[Qe];omega),Z1];refine Q7.mpr λd hd=>?_
  obtain⟨p,_,rfl⟩:=Qs.mp hd;rfl
theorem Qnx{ns:List Int}(hs:ZE ns){m:Int}(m8:m<=8):(opL m ns).length<=85:=by
 have l6:=hs.l6;have:=Qej (m:=m) m8 (λx hx=>(Qfk hs hx).2) (hdS ns).length;rw[JF] at this;have lh:=Qgc ns;unfold opL;omega
theorem Qo1{ns:List Int}(hs:ZE ns){m:Int}(m8:m<=8):Qck 2 (.list ((opL m ns).map Qf))=true:=by
 have ll:=Qnx hs m8;show(decide (((opL m ns).map Qf).length<=1000)&&((opL m ns).map Qf).all (Qck 1))=true;rw[decide_eq_true (by rw[Qe];omega),Z1];refine Q7.mpr λd hd=>?_
 obtain⟨p,_,rfl⟩:=Qs.mp hd;rfl
theorem QiM{ns:List Int}(h:Qcu (tI ns)=true):ZE ns:=by
 obtain⟨ms,e,hs⟩:=Qlp h;have e:ns.map Qf=ms.map Qf:=PyData.tuple.inj e;have:ns=ms:=by rw[<- Qec ns,e,Qec]
 rw[this];exact hs
theorem QvY:Qer (stC [0,1]) 2=.none:=by
 unfold Qer;rw[show QmF (stC [0,1]) 2=none by decide +kernel]
theorem QvX:Qer (stC [2,2]) 1=stT [(1,0)]:=by
 unfold Qer;rw[show QmF (stC [2,2]) 1=some [(1,0)] by decide +kernel]
theorem op1:opL 0 [0]=[]:=by decide +kernel
section
variable{P:QF}{w:Q9}{K:PySem.W.Frag}{mg:Str->Option Value}{base:JU}
theorem Qbo:Jd ["_law_script", "_law_at", "_law_pot_here", "_law_stairs_here", "_law_size", "_law_number", "_law_due", "_law_turn", "_law_found"] ["_law_script"] (Qo sLaw):=⟨rfl,rfl,rfl,by decide +kernel,rfl,by decide +kernel,by decide +kernel⟩
theorem Qsp{tP:Addr}{f f1 f2 f3 f4 f5 f6 f7 f8 f9  : Addr}{fd fd1 fd2 fd3 fd4 fd5 fd6 fd7 fd8 fd9:QB}(F:Fun K "law" "law" sLaw f fd)(T:GlbA mg)
  (m1:mg "_law_cell_at" = some (.ref f1))(G1:FnOk P w K mg base CX0 1 f1 fd1 ["_law_script", "_law_k"] (Qbn K))(b1:Binds K fd1 ["_law_script", "_law_k"] [])(k1:PySem.W.keepIn K (.ref f1)=true)
  (m2:mg "_law_pot" = some (.ref f2))(G2:FnOk P w K mg base CX0 1 f2 fd2 ["_law_cell"] (JK true Qun))(b2:Binds K fd2 ["_law_cell"] [])(k2:PySem.W.keepIn K (.ref f2)=true)
  (m3:mg "_law_take" = some (.ref f3))(G3:FnOk P w K mg base CX0 1 f3 fd3 ["_law_pot_here", "_law_far"] (JK true QiH))(b3:Binds K fd3 ["_law_pot_here", "_law_far"] [])(k3:PySem.W.keepIn K (.ref f3)=true)
  (m4:mg "_law_few" = some (.ref f4))(G4:FnOk P w K mg base CX0 3 f4 fd4 ["_law_pot_here", "_law_most"] (JK false Qkh))(b4:Binds K fd4 ["_law_pot_here", "_law_most"] [])(k4:PySem.W.keepIn K (.ref f4)=true)
  (m5:mg "lightest" = some (.ref f5))(G5:FnOk P w K mg base CX0 6 f5 fd5 ["stairs", "size"] (spT tP Qp3 (JK false QjW)))(b5:Binds K fd5 ["stairs", "size"] [])(k5:PySem.W.keepIn K (.ref f5)=true)
  (m6:mg "_law_lightest" = some (.ref f6))(G6:FnOk P w K mg base CX0 2 f6 fd6 ["_law_stairs_here", "_law_size"] (JK false Qf7))(b6:Binds K fd6 ["_law_stairs_here", "_law_size"] [])(k6:PySem.W.keepIn K (.ref f6)=true)
  (m7:mg "_law_same" = some (.ref f7))(G7:FnOk P w K mg base CX0 4 f7 fd7 ["_law_found", "_law_due"] (JK false (Qob 2)))(b7:Binds K fd7 ["_law_found", "_law_due"] [])(k7:PySem.W.keepIn K (.ref f7)=true)
  (m8:mg "_law_product" = some (.ref f8))(G8:FnOk P w K mg base CX0 2 f8 fd8 ["_law_stairs_here", "_law_number"] (JK false QjT))(b8:Binds K fd8 ["_law_stairs_here", "_law_number"] [])(k8:PySem.W.keepIn K (.ref f8)=true)
  (m9:mg "ones_product" = some (.ref f9))(G9:FnOk P w K mg base CX0 6 f9 fd9 ["stairs", "number"] (JK true Qo4))(b9:Binds K fd9 ["stairs", "number"] [])(k9:PySem.W.keepIn K (.ref f9)=true) :
  FnOk P w K mg base CX0 8 f fd ["_law_script"] (spT tP Qp3 (Qdo K)):=by
 refine Quz F Qbo (λcdv A outer s H E hr hT=>?_);have hU:=Room.u60 hr;have hI:=Room.i60 hr;refine⟨_,QL (YD Q4 rfl (Qba (by rfl) T.range (QP (JI (Y8 rfl) QkI (by rfl) T.max QdS (YE (Jb Jo) (YE (QP (JI (Qfr rfl) QkH (by rfl) T.min Qhl (YE (QP (QrP 0 (by rfl) T.len)) (YE (Jb Jo) Q1)))) Q1))))) (Zd 1 Qbo.nd rfl (by first | exact QZ rfl | exact QU rfl))
    (QL (Qoh 2 (Z6 G2 (hr.mono (by decide)) (by rfl) m2 k2 b2 Ze (Z2 (JR (QrR 0 G1 (hr.mono (by decide)) (by rfl) m1 k1 b1 (qp 1))) JD)) Qbo.nd)
   (QL (ZR 3 (ZC G4 (hr.mono (by decide)) (by rfl) m4 k4 b4 Ze (Qa3 2 (Z2 (Qcj Zx YA (QP (Qah (Qab Jo (Qab Jo (Qab Jo (Qab Jo Q1)))))) (QP (Z6 G3 (hr.mono (by decide)) (by rfl) m3 k3 b3 Ze (Qa3 2 (Z2 Jo JD)))) (λ_ _=>rfl)) JD))) Qbo.nd)
   (QL (ZR 4 (JR (Z6 G3 (hr.mono (by decide)) (by rfl) m3 k3 b3 Ze (Qa3 2 (Z2 (JR (Yf ZJ Yw (QP (JI ZK QaP (by rfl) T.len YQ (YE (qp 3) Q1))) (Jb Jo))) JD)))) Qbo.nd)
   (QL (QcH (QcG (QcF (QP (QgM G7 (hr.mono (by decide)) (by rfl) m7 k7 b7 Ze (YE (Jb (QfW hT G5 (hr.mono (by decide)) (by rfl) m5 k5 b5 Ze (Z2 (qv 3) (Z2 (qv 4) JD)))) (YE (Jb (ZC G6 (hr.mono (by decide)) (by rfl) m6 k6 b6 Ze (Z2 (qv 3) (Z2 (qv 4) JD)))) Q1)))))) (Q3 (YC Qul)) YL)
   (Q3 (YD Q4 rfl (QaG (JR (Qah (Qab (JR (Z6 G3 (hr.mono (by decide)) (by rfl) m3 k3 b3 Ze (Qa3 2 (Z2 Jo JD)))) (Qab Jo (Qab Jo Q1)))))) (Zd 5 Qbo.nd rfl (by first | exact QZ rfl | exact QU rfl))
    (QL (ZR 6 (ZC G8 (hr.mono (by decide)) (by rfl) m8 k8 b8 Ze (Z2 (qv 3) (Z2 (qv 5) JD))) Qbo.nd)
   (Q3 (YD Q4 rfl (Qba (by rfl) T.range (Jb Jo)) (Zd 7 Qbo.nd rfl (by first | exact QZ rfl | exact QU rfl))
    (QL (Qag 8 (Z6 G9 (hr.mono (by decide)) (by rfl) m9 k9 b9 Ze (Z2 (qv 3) (Z2 (qv 5) JD))) Qbo.nd)
   (QL (QcH (QcG (QcF (QP (QgM G7 (hr.mono (by decide)) (by rfl) m7 k7 b7 Ze (YE (qp 8) (YE (qp 6) Q1)))))) (Q3 (YC Qul)) YL)
   (Q3 (Qi9 8 Jo))))))))))))))
   (Q3 (YC (Qdh (QP (Qbq Qsj QuA (Jb (QfW hT G5 (hr.mono (by decide)) (by rfl) m5 k5 b5 Ze (Z2 (JR (Qaz (Qab Jo (Qab Jo Q1)))) (Z2 Jo JD)))) (Jb QrO) (JJ _))) (Qdh (QP (Qbq QaL (QcK hU) (Jb (QfW hT G5 (hr.mono (by decide)) (by rfl) m5 k5 b5 Ze (Z2 (JR (Qaz (Qab Jo (Qab Jo Q1)))) (Z2 Jo JD)))) (QP (Qaz (Qab (JR (Qaz (Qab Jo (Qab Jo Q1)))) Q1))) (JJ _))) (QcI (JR (Qbq QaL (QcK hU) (QP (Z6 G9 (hr.mono (by decide)) (by rfl) m9 k9 b9 Ze (Z2 (JR (Qaz (Qab Jo Q1))) (Z2 Jo JD)))) (QP (Qah Q1)) (JJ _)))))))),?_⟩
 intro n0 n63;refine⟨⟨by split<;>split<;>omega,by split<;>split<;>omega⟩,Qb3 (λi δ=>∃x1 x2 x3 x4 x5 x6 x7 x8,δ=[.scr,x1,x2,x3,x4,x5,x6,x7,x8]) ⟨_,_,_,_,_,_,_,_,rfl⟩ ?_ ?_⟩
 ·rintro i δ hi ⟨x1,x2,x3,x4,x5,x6,x7,x8,rfl⟩;refine⟨by omega,λc=>⟨c,rfl,λn1=>?_⟩⟩;refine⟨_,rfl,by decide,by decide,λr r0 r1=>QuC r0 r1 λd hd=>?_⟩;obtain⟨m,rfl,m1,m2⟩:=Qbf (p:=λd=>∃m:Int,d=.int m/\0<=m/\m<=20) ⟨_,rfl,by decide,by decide⟩ (Qbf ⟨_,rfl,by decide,by decide⟩ (Qbf ⟨_,rfl,by decide,by decide⟩ (Qbf ⟨_,rfl,by decide,by decide⟩ QnP))) d hd;refine⟨m,rfl,m1,m2,λns hs hm=>?_⟩;have h6:=hs.l6;have g:=QcS hs;have ln:(ns.map Qf).length=ns.length:=Qe _;refine⟨_,rfl,by omega,by omega,λk k0 k1=>?_⟩;obtain⟨k,rfl⟩:∃n:Nat,k=(n:Int):=⟨k.toNat,by omega⟩
  have hk:k<=ns.length:=by omega
  have lf:=QmE (cs:=stC ns) g.r0 (k:=k) (by omega);refine⟨ns,k,rfl,hs,by omega,hk,ns,k,rfl,hs,hk,Qer (stC ns) k,rfl,lf.1,lf.2,rfl,?_⟩;refine⟨_,rfl,by decide,by decide,λx x0 x9=>Zt (λ_ δ=>∃x1 x5 x6 x7 x8,δ=[.scr,x1,.pot,.v (tI ns),.v (.int k),x5,x6,x7,x8]) ⟨_,_,_,_,_,rfl⟩ ?_ ?_⟩
  ·rintro j d δ hd ⟨x1,x5,x6,x7,x8,rfl⟩;obtain⟨q,rfl,q0,q8⟩:=Qbf (p:=λd=>∃q:Int,d=.int q/\0<=q/\q<=8) ⟨x,rfl,x0,by omega⟩ (Qbf ⟨0,rfl,by decide,by decide⟩ (Qbf ⟨8,rfl,by decide,by decide⟩ QnP)) d (Qt hd);refine⟨ns,q,rfl,hs,q0,q8,⟨by decide,by decide⟩,Qb3 (λ_ δ=>∃x1 x7 x8,δ=[.scr,x1,.pot,.v (tI ns),.v (.int k),.v (.int q),.v (.list ((opL q ns).map Qf)),x7,x8]) ⟨_,_,_,rfl⟩ ?_ ?_⟩
   ·rintro t δ ht ⟨x1,x7,x8,rfl⟩;have ol:=Qnx hs q8;refine⟨ns,q,rfl,hs,by omega,q0,q8,.list ((opL q ns).map Qf),rfl,Qct _,Qo1 hs q8,rfl,?_⟩;exact⟨by rw[Qe];omega,_,_,_,rfl⟩
   ·rintro δ ⟨x1,x7,x8,rfl⟩;exact⟨_,_,_,_,_,rfl⟩
  ·rintro δ ⟨x1,x5,x6,x7,x8,rfl⟩;exact⟨_,_,_,_,_,_,_,_,rfl⟩
 ·rintro δ ⟨x1,x2,x3,x4,x5,x6,x7,x8,rfl⟩;refine⟨[0,1],2,rfl,QiM rfl,by decide,by decide,?_⟩;rw[QvY];refine⟨[2,2],1,rfl,QiM rfl,by decide,by decide,?_⟩;rw[QvX];refine⟨⟨rfl,rfl,.inl (by show Jx (.tuple [.tuple [.int 1,.int 0]])<=50;decide)⟩,?_⟩;refine⟨[0],0,rfl,QiM rfl,by decide,by decide,by decide,?_⟩;rw[op1];refine⟨⟨rfl,rfl,.inl (by show Jx (.list [])<=50;decide)⟩,?_⟩;rfl
end
end Rk
namespace Rk
open L2 _root_.Rd
def QsJ:Qa->Bool
 |.tuple _=>true
 |.list _=>true
 |_=>false
def Qv2:Qa->Bool
 |.list _=>true
 |_=>false
def Qv0:Qa->Bool
 |.tuple _=>true
 |_=>false
def Qv3:Qa->Bool
 |.bool _=>true
 |_=>false
def Qv1:Qa->Bool
 |.str _=>true
 |_=>false
theorem Qri{K:PySem.W.Frag}{H:Hp}:∀{x:V}{d:Qa},Dat H x d->∃t,TyOf K H x t/\PySem.W.kitAny K t [.type "list",.type "tuple"]=some (QsJ d)/\PySem.W.kitOne K t (.type "list")=some (Qv2 d)/\PySem.W.kitOne K t (.type "tuple")=some (Qv0 d) /\
  PySem.W.kitOne K t (.type "bool")=some (Qv3 d)/\PySem.W.kitOne K t (.type "str")=some (Qv1 d)
 |_,_,.non=>⟨_,.non,rfl,rfl,rfl,rfl,rfl⟩
 |_,_,.bl _=>⟨_,.bl _,rfl,rfl,rfl,rfl,rfl⟩
 |_,_,.int _=>⟨_,.int _,rfl,rfl,rfl,rfl,rfl⟩
 |_,_,.str _ _=>⟨_,.str _,rfl,rfl,rfl,rfl,rfl⟩
 |_,_,.tup e _=>⟨_,.tup e,rfl,rfl,rfl,rfl,rfl⟩
 |_,_,.lst e _=>⟨_,.lst e,rfl,rfl,rfl,rfl,rfl⟩
def QiO:Sp:=λvs H Q _=>∃p x,vs=[x]/\Kn p H x/\Q (.bl (isI x)) H
section
variable{P:QF}{w:Q9}{K:PySem.W.Frag}{mg:Str->Option Value}{base:JU}
theorem Qlx:Jd ["_law_found"] ["_law_found"] (Qo Qcf):=⟨rfl,rfl,rfl,by decide +kernel,rfl,by decide +kernel,by decide +kernel⟩
theorem Qjx{f:Addr}{fd:QB}(F:Fun K "_law_whole" "_law_whole" Qcf f fd)(T:GlbA mg):FnOk P w K mg base CX0 1 f fd ["_law_found"] QiO:=by
 refine F.ok Qlx (λvs H Q E h=>?_) (λcdv A outer s H vs Q E hr h=>?_)
 ·obtain⟨p,x,rfl,_⟩:=h;rfl
 ·obtain⟨p,x,rfl,kn,k⟩:=h;refine⟨_,Yi (YM (Qdx (Zg JZ (by rfl) T.isinstance JC (Jl (pv 0) (Jl (Yz (v:=.ty "int") (by rfl) T.int QdT rfl) JV)))
   (Qdw (Qnu (Zg JZ (by rfl) T.isinstance JC (Jl (pv 0) (Jl (Yz (v:=.ty "bool") (by rfl) T.bool Qc6 rfl) JV))))))),?_⟩
  obtain⟨t,ty,e⟩:=Qg6 (K:=K) kn;obtain⟨t2,ty2,e2⟩:=Qj8 (K:=K) kn;refine⟨_,rfl,_,t,_,_,rfl,ty,e,_,rfl,?_⟩;cases x with
  |int i=>exact Qg4 ⟨_,rfl,_,t2,_,_,rfl,ty2,e2,_,rfl,k⟩
  |bl i=>exact Qg4 ⟨_,rfl,_,t2,_,_,rfl,ty2,e2,_,rfl,k⟩
  |_=>exact QeN k
theorem QsC{H:Hp}:∀{x:V}{d:Qa},Dat H x d->∃p,Kn p H x
 |_,_,.non=>⟨0,trivial⟩
 |_,_,.bl _=>⟨0,trivial⟩
 |_,_,.int _=>⟨0,trivial⟩
 |_,_,.str _ _=>⟨0,trivial⟩
 |_,_,.tup (a:=a) e _=>⟨(a+1:Nat),Qu (YT a),.inl ⟨_,e⟩⟩
 |_,_,.lst (a:=a) e _=>⟨(a+1:Nat),Qu (YT a),.inr (.inl ⟨_,e⟩)⟩
theorem QgY:(["_law_one", "_law_other"]:List Str).Nodup:=by decide +kernel
theorem Qn7:Jd ["_law_found", "_law_due"] ["_law_found", "_law_due"] (Qo QhW):=⟨rfl,rfl,rfl,by decide +kernel,rfl,by decide +kernel,by decide +kernel⟩
theorem QjB{f f1:Addr}{fd fd1:QB}(F:Fun K "_law_same" "_law_same" QhW f fd)(T:GlbA mg)(mf:mg "_law_same" = some (.ref f))(bf:Binds K fd ["_law_found", "_law_due"] [])(kf:PySem.W.keepIn K (.ref f)=true)
  (m1:mg "_law_whole" = some (.ref f1))(G1:FnOk P w K mg base CX0 1 f1 fd1 ["_law_found"] QiO)(b1:Binds K fd1 ["_law_found"] [])(k1:PySem.W.keepIn K (.ref f1)=true) :
  ∀n:Nat,FnOk P w K mg base CX0 (n+1) f fd ["_law_found", "_law_due"] (QfS n)
 |0=>⟨λ_ _ _ _ h=>h.elim,λ_ _ _ _ _ _ _ _ _ _ _ _ _ h=>h.elim⟩
 |n+1=>by
  have IH:=QjB F T mf bf kf m1 G1 b1 k1 n;refine F.ok Qn7 (λvs H Q E h=>?_) (λcdv A outer s H vs Q E hr h=>?_)
  ·obtain⟨x,y,d,rfl,_⟩:=h;rfl
  ·obtain⟨x,y,d,rfl,qx,qy,fl,k⟩:=h;have hr1:Room 1 _:=hr.mono (by omega);refine⟨_,ZD (Qfa (QbR Qju (pv 1) Qjf (JJ _)) (Yi (YM (QbS Qju (pv 0) Qjf (JJ _)))) QaI)
    (ZD (Qfa (QgN (Zg JZ (by rfl) T.isinstance JC (Jl (pv 1) (Jl (Yz (v:=.ty "bool") (by rfl) T.bool Qc6 rfl) JV)))) (Yi (YM (Qdx (Zg JZ (by rfl) T.isinstance JC (Jl (pv 0) (Jl (Yz (v:=.ty "bool") (by rfl) T.bool Qc6 rfl) JV))) (Qdw (QbS QgU (pv 0) (pv 1) (JJ _)))))) QaI)
    (ZD (Qfa (QgN (Zg JZ (by rfl) T.isinstance JC (Jl (pv 1) (Jl (Yz (v:=.ty "int") (by rfl) T.int QdT rfl) JV)))) (Yi (YM (Qdx (QaJ G1 hr1 (by rfl) m1 k1 b1 .nil Qsf (Jl (pv 0) JV)) (Qdw (QbS QgU (pv 0) (pv 1) (JJ _)))))) QaI)
    (ZD (Qfa (QgN (Zg JZ (by rfl) T.isinstance JC (Jl (pv 1) (Jl (Yz (v:=.ty "str") (by rfl) T.str QnM rfl) JV)))) (Yi (YM (Qdx (Zg JZ (by rfl) T.isinstance JC (Jl (pv 0) (Jl (Yz (v:=.ty "str") (by rfl) T.str QnM rfl) JV))) (Qdw (QbS QgU (pv 0) (pv 1) (JJ _)))))) QaI)
    (ZD (Qfa (PW.pt (QrS (QbR QoY (Zg JZ (by rfl) T.isinstance JC (Jl (pv 1) (Jl (Yz (v:=.ty "tuple") (by rfl) T.tuple YY rfl) JV))) (Zg JZ (by rfl) T.isinstance JC (Jl (pv 0) (Jl (Yz (v:=.ty "tuple") (by rfl) T.tuple YY rfl) JV))) (JJ _)) (Qnn (QbR QoY (Zg JZ (by rfl) T.isinstance JC (Jl (pv 1) (Jl (Yz (v:=.ty "list") (by rfl) T.list QkN rfl) JV))) (Zg JZ (by rfl) T.isinstance JC (Jl (pv 0) (Jl (Yz (v:=.ty "list") (by rfl) T.list QkN rfl) JV))) (JJ _))))) (Yi (YM QrZ)) QaI)
    (Yi (YM (Qdx (QbS Qsm (Zg Yx (by rfl) T.len YQ (Jl (pv 0) JV)) (Zg Yx (by rfl) T.len YQ (Jl (pv 1) JV)) (JJ _)) (Qdw (Zg Qcy (by rfl) T.all Qhm (Jl (QgQ (M:=["_law_one", "_law_other"]) (cap:=[none,none]) (g:=(QuL K 2 (QmM (QcT 0) (QmM (QcT 1) QuM)))) (tc:=QfN) (te:=(QhE (QfS n) [] E0 (QeZ (QgB 0) (QeZ (QgB 1) Qrr)))) rfl (by rfl) (Quo (Qnr (by rfl) T.zip (Jl (pv 0) (Jl (pv 1) JV))) (Qov (by rfl) T.zip (Jl (pv 0) (Jl (pv 1) JV)))) (λcl ex s3 H3 C=>⟨(Qns rfl (Qek (QcJ (i:=0) QgY rfl (QZ rfl) (QU rfl)) (Qek (QcJ (i:=1) QgY rfl (QZ rfl) (QU rfl)) Qjd))),Qja,(QaJ IH (hr.mono (Qk _)) (by rfl) mf kf bf .nil Qsf (Jl (pv 0) (Jl (pv 1) JV)))⟩)) JV)))))))))),?_⟩
   obtain⟨t,ty,a1,a2,a3,a4,a5⟩:=Qri (K:=K) qy;obtain⟨t',ty',a1',a2',a3',a4',a5'⟩:=Qri (K:=K) qx;obtain⟨p0,kn⟩:=QsC qy;obtain⟨tI,tyI,eI⟩:=Qg6 (K:=K) kn;cases d with
   |none=>
    have hy:y=.non:=by cases qy;rfl
    have hx:x=.non:=by cases qx;rfl
    subst hy hx;exact⟨_,rfl,rfl,_,rfl,Qg4 ⟨_,rfl,rfl,k H (Same.refl H)⟩⟩
   |bool v=>
    have hy:y=.bl v:=by cases qy;rfl
    have hx:x=.bl v:=by cases qx;rfl
    subst hy hx;refine⟨_,rfl,rfl,_,rfl,QeN ⟨_,rfl,_,t,_,_,rfl,ty,a4,_,rfl,Qg4 ⟨_,rfl,_,t',_,_,rfl,ty',a4',_,rfl,Qg4 ?_⟩⟩⟩;refine⟨_,rfl,_,rfl,(Zi v),(Zi v),qx,qy,by rw[Qit];show _+Jx (Zi v)<cLine;rw[show Jx (Zi v)=0 from by simp[Jx]];exact hr.units0,?_⟩;rw[QeQ (Zi v) rfl];exact k H (Same.refl H)
   |int i=>
    have hy:y=.int i:=by cases qy;rfl
    have hx:x=.int i:=by cases qx;rfl
    subst hy hx;refine⟨_,rfl,rfl,_,rfl,QeN ⟨_,rfl,_,t,_,_,rfl,ty,a4,_,rfl,QeN ⟨_,rfl,_,tI,_,_,rfl,tyI,eI,_,rfl,Qg4 ⟨_,rfl,0,.int i,rfl,trivial,_,rfl,Qg4 ?_⟩⟩⟩⟩;refine⟨_,rfl,_,rfl,.int i,.int i,qx,qy,by rw[Qit];show _+Jx (.int i)<cLine;rw[show Jx (.int i)=0 from by simp[Jx]];exact hr.units0,?_⟩;rw[QeQ (.int i) rfl];exact k H (Same.refl H)
   |str v=>
    have cl:Qbl (.str v)=true:=by cases qy with | str _ c=>exact c
    have hy:y=.str v:=by cases qy;rfl
    have hx:x=.str v:=by cases qx;rfl
    subst hy hx;refine⟨_,rfl,rfl,_,rfl,QeN ⟨_,rfl,_,t,_,_,rfl,ty,a4,_,rfl,QeN ⟨_,rfl,_,tI,_,_,rfl,tyI,eI,_,rfl,QeN ⟨_,rfl,_,t,_,_,rfl,ty,a5,_,rfl,Qg4 ⟨_,rfl,_,t',_,_,rfl,ty',a5',_,rfl,Qg4 ?_⟩⟩⟩⟩⟩;refine⟨_,rfl,_,rfl,(Qcm v),(Qcm v),qx,qy,by rw[Qit];show _+Jx (Qcm v)<cLine;rw[show Jx (Qcm v)=0 from by simp[Jx]];exact hr.units0,?_⟩;rw[QeQ (Qcm v) cl];exact k H (Same.refl H)
   |tuple ds=>
    obtain⟨m,rfl⟩:∃m,n=m+1:=by
     cases n with
     |zero=>cases fl
     |succ m=>exact⟨m,rfl⟩
    have fl':=QR.mp (show(decide (ds.length<=1000)&&ds.all (Qck m))=true from fl);have hdl:ds.length<=1000:=of_decide_eq_true fl'.1;cases qy with
    |@tup b ys _ eb qs=>
    cases qx with
    |@tup a xs _ ea ps=>
    refine⟨_,rfl,rfl,_,rfl,QeN ⟨_,rfl,_,t,_,_,rfl,ty,a4,_,rfl,QeN ⟨_,rfl,_,tI,_,_,rfl,tyI,eI,_,rfl,QeN ⟨_,rfl,_,t,_,_,rfl,ty,a5,_,rfl,QeN ?_⟩⟩⟩⟩;refine⟨_,rfl,_,t,_,_,rfl,ty,a3,_,rfl,_,t',_,_,rfl,ty',a3',rfl,_,rfl,QmJ rfl ?_⟩;refine⟨_,rfl,_,t,_,_,rfl,ty,a2,_,rfl,_,t',_,_,rfl,ty',a2',rfl,_,rfl,QmJ rfl ?_⟩;have hxl:=ps.length;have hyl:=qs.length;refine⟨_,rfl,a,xs,rfl,.inr (SqT.of ea),_,rfl,b,ys,rfl,.inr (SqT.of eb),rfl,_,rfl,?_⟩;rw[show decide (V.int (xs.length:Nat)=V.int (ys.length:Nat))=true from decide_eq_true (by rw[hxl,hyl])];refine Qg4 (.inl ⟨_,rfl,_,rfl,a,b,xs,ys,rfl,ea,eb,λp hp=>?_⟩);refine QdO ds.length (QaM hdl) (λ_=>true) hp (λi H2 hi2 s2=>?_) (λH2 s2=>?_) λH2 s2 e2=>?_
    ·have hx:xs[i]? = some xs[i]:=Qg (by omega);have hy:ys[i]? = some ys[i]:=Qg (by omega);have ea2:=s2 a _ ea;have eb2:=s2 b _ eb;refine⟨⟨xs,ys,_,_,ea2,eb2,hx,hy⟩,λv H3 ⟨r,x',y',hr0,ex,ey,ev,eH⟩ kk hk=>?_⟩;have ex':=ex xs ea2;have ey':=ey ys eb2;rw[hx] at ex';rw[hy] at ey';cases ex';cases ey';subst ev eH;obtain⟨d1,hd1,q1⟩:=ps.get i _ hx;obtain⟨d2,hd2,q2⟩:=qs.get i _ hy;rw[hd1] at hd2;cases hd2;have fd1:Qck m d1=true:=Q7.mp fl'.2 d1 (Qt hd1);refine⟨r,[xs[i],ys[i]],rfl,SqT.of Q8,rfl,xs[i],[ys[i]],rfl,ys[i],[],rfl,rfl,⟨trivial,?_⟩⟩;exact⟨_,rfl,_,rfl,xs[i],ys[i],d1,rfl,(q1.same s2).same (Js hr0),(q2.same s2).same (Js hr0),fd1,λH' s'=>hk H' ((Js hr0).trans s')⟩
    ·refine⟨xs,ys,s2 a _ ea,s2 b _ eb,?_⟩;omega
    ·refine⟨p,_,rfl,SqL.of e2,rfl,?_⟩;have e3:((JN ds.length).map λ_=>true).all id=true:=by
      rw[Q7];intro z hz;obtain⟨_,_,rfl⟩:=Qs.mp hz;rfl
     rw[e3];exact k H2 s2
   |list ds=>
    obtain⟨m,rfl⟩:∃m,n=m+1:=by
     cases n with
     |zero=>cases fl
     |succ m=>exact⟨m,rfl⟩
    have fl':=QR.mp (show(decide (ds.length<=1000)&&ds.all (Qck m))=true from fl);have hdl:ds.length<=1000:=of_decide_eq_true fl'.1;cases qy with
    |@lst b ys _ eb qs=>
    cases qx with
    |@lst a xs _ ea ps=>
    refine⟨_,rfl,rfl,_,rfl,QeN ⟨_,rfl,_,t,_,_,rfl,ty,a4,_,rfl,QeN ⟨_,rfl,_,tI,_,_,rfl,tyI,eI,_,rfl,QeN ⟨_,rfl,_,t,_,_,rfl,ty,a5,_,rfl,QeN ?_⟩⟩⟩⟩;refine⟨_,rfl,_,t,_,_,rfl,ty,a3,_,rfl,_,t',_,_,rfl,ty',a3',rfl,_,rfl,QmJ rfl ?_⟩;refine⟨_,rfl,_,t,_,_,rfl,ty,a2,_,rfl,_,t',_,_,rfl,ty',a2',rfl,_,rfl,QmJ rfl ?_⟩;have hxl:=ps.length;have hyl:=qs.length;refine⟨_,rfl,a,xs,rfl,.inl (SqL.of ea),_,rfl,b,ys,rfl,.inl (SqL.of eb),rfl,_,rfl,?_⟩;rw[show decide (V.int (xs.length:Nat)=V.int (ys.length:Nat))=true from decide_eq_true (by rw[hxl,hyl])];refine Qg4 (.inr ⟨_,rfl,_,rfl,a,b,xs,ys,rfl,ea,eb,λp hp=>?_⟩);refine QdO ds.length (QaM hdl) (λ_=>true) hp (λi H2 hi2 s2=>?_) (λH2 s2=>?_) λH2 s2 e2=>?_
    ·have hx:xs[i]? = some xs[i]:=Qg (by omega);have hy:ys[i]? = some ys[i]:=Qg (by omega);have ea2:=s2 a _ ea;have eb2:=s2 b _ eb;refine⟨⟨xs,ys,_,_,ea2,eb2,hx,hy⟩,λv H3 ⟨r,x',y',hr0,ex,ey,ev,eH⟩ kk hk=>?_⟩;have ex':=ex xs ea2;have ey':=ey ys eb2;rw[hx] at ex';rw[hy] at ey';cases ex';cases ey';subst ev eH;obtain⟨d1,hd1,q1⟩:=ps.get i _ hx;obtain⟨d2,hd2,q2⟩:=qs.get i _ hy;rw[hd1] at hd2;cases hd2;have fd1:Qck m d1=true:=Q7.mp fl'.2 d1 (Qt hd1);refine⟨r,[xs[i],ys[i]],rfl,SqT.of Q8,rfl,xs[i],[ys[i]],rfl,ys[i],[],rfl,rfl,⟨trivial,?_⟩⟩;exact⟨_,rfl,_,rfl,xs[i],ys[i],d1,rfl,(q1.same s2).same (Js hr0),(q2.same s2).same (Js hr0),fd1,λH' s'=>hk H' ((Js hr0).trans s')⟩
    ·refine⟨xs,ys,s2 a _ ea,s2 b _ eb,?_⟩;omega
    ·refine⟨p,_,rfl,SqL.of e2,rfl,?_⟩;have e3:((JN ds.length).map λ_=>true).all id=true:=by
      rw[Q7];intro z hz;obtain⟨_,_,rfl⟩:=Qs.mp hz;rfl
     rw[e3];exact k H2 s2
   |dict ds=>cases qx
end
end Rk
def PySem.W.Fast.tw15535004489955067175:Nat:=0
def PySem.W.Fast.tw18152659728837461579:Nat:=0
def PySem.W.Fast.tw13085760265757799042:Nat:=0
def PySem.W.Fast.tw10000263319546793888:Nat:=0
def PySem.W.Fast.tw4831397343963772469:Nat:=0
def PySem.W.Fast.tw15345073329394469760:Nat:=0
def PySem.W.Fast.tw6884389179668973321:Nat:=0
def PySem.W.Fast.tw8385708087573551096:Nat:=0
def PySem.W.Fast.tw9119291665042098868:Nat:=0
def PySem.W.Fast.tw55533257256030378:Nat:=0
def PySem.W.Fast.tw194774106707142928:Nat:=0
def PySem.W.Fast.tw5352152003310065912:Nat:=0
def PySem.W.Fast.tw11891628022354419930:Nat:=0
def PySem.W.Fast.tw10235365893991269675:Nat:=0
def PySem.W.Fast.tw4060742437683534586:Nat:=0
def PySem.W.Fast.tw14415724038860901073:Nat:=0
def PySem.W.Fast.tw12937357064458726093:Nat:=0
def PySem.W.Fast.tw3233476988457538409:Nat:=0
def PySem.W.Fast.tw6271146189542973775:Nat:=0
def PySem.W.Fast.tw12914221609352543425:Nat:=0
def PySem.W.Fast.tw8723416009865201531:Nat:=0
def PySem.W.Fast.tw14528869342841035580:Nat:=0
def PySem.W.Fast.tw9865204834102852328:Nat:=0
def PySem.W.Fast.tw11686629399022973972:Nat:=0
def PySem.W.Fast.tw17936989960403435347:Nat:=0
def PySem.W.Fast.tw15217523489114400755:Nat:=0
def PySem.W.Fast.tw13490319596457389267:Nat:=0
def PySem.W.Fast.tw17345685915826874387:Nat:=0
def PySem.W.Fast.tw14048460761862113992:Nat:=0
def PySem.W.Fast.tw725018178406847063:Nat:=0
def PySem.W.Fast.tw12662124519031297068:Nat:=0
def PySem.W.Fast.tw3389407408374645171:Nat:=0
def PySem.W.Fast.tw10532100825665197082:Nat:=0
def PySem.W.Fast.tw10730639265566203920:Nat:=0
def PySem.W.Fast.tw3375269053293603570:Nat:=0
def PySem.W.Fast.tw13291251277725290285:Nat:=0
def PySem.W.Fast.tw11206969808932434499:Nat:=0
def PySem.W.Fast.tw18385795458776085487:Nat:=0
def PySem.W.Fast.tw14790971205174351217:Nat:=0
def PySem.W.Fast.tw773512389862879268:Nat:=0
def PySem.W.Fast.tw6755697793721041559:Nat:=0
def PySem.W.Fast.tw16673707287162924769:Nat:=0
def PySem.W.Fast.tw9421177000299634865:Nat:=0
def PySem.W.Fast.tw3236206288775901572:Nat:=0
def PySem.W.Fast.tw1575888757289123684:Nat:=0
def PySem.W.Fast.tw15184339358129839062:Nat:=0
def PySem.W.Fast.tw2009865913961983222:Nat:=0
def PySem.W.Fast.tw8726465958190432710:Nat:=0
def PySem.W.Fast.tw6510535103947712572:Nat:=0
def PySem.W.Fast.tw5574534633574694445:Nat:=0
def PySem.W.Fast.tw4208663082803659625:Nat:=0
def PySem.W.Fast.tw3850150857378294011:Nat:=0
def PySem.W.Fast.tw1319267401429995364:Nat:=0
def PySem.W.Fast.tw4880578780424485542:Nat:=0
def PySem.W.Fast.tw2992845573162147778:Nat:=0
def PySem.W.Fast.tw5977294897689091434:Nat:=0
def PySem.W.Fast.tw15937456011067354988:Nat:=0
def PySem.W.Fast.tw5814970062460766597:Nat:=0
def PySem.W.Fast.tw17440488353905260415:Nat:=0
def PySem.W.Fast.tw17535701723261936844:Nat:=0
def PySem.W.Fast.tw15198095217452400344:Nat:=0
def PySem.W.Fast.tw9029787634061767619:Nat:=0
def PySem.W.Fast.tw12298353869016519550:Nat:=0
def PySem.W.Fast.tw2175860462861972812:Nat:=0
def PySem.W.Fast.tw15244744982680159128:Nat:=0
def PySem.W.Fast.tw8132555017284976550:Nat:=0
def PySem.W.Fast.tw5280094929449849802:Nat:=0
def PySem.W.Fast.tw1180007818192131852:Nat:=0
def PySem.W.Fast.tw10654966821413712596:Nat:=0
def PySem.W.Fast.tw6688689588733832011:Nat:=0
def PySem.W.Fast.tw8699167925318908664:Nat:=0
def PySem.W.Fast.tw14457755862582517851:Nat:=0
def PySem.W.Fast.tw11090134905486526237:Nat:=0
def PySem.W.Fast.tw12225331670342400236:Nat:=0
def PySem.W.Fast.tw1426854205725656849:Nat:=0
def PySem.W.Fast.tw15512097880731992690:Nat:=0
def PySem.W.Fast.tw2687421383689306448:Nat:=0
def PySem.W.Fast.tw5639970936009097756:Nat:=0
def PySem.W.Fast.tw9822675442730679061:Nat:=0
def PySem.W.Fast.tw7330600148269561367:Nat:=0
def PySem.W.Fast.tw5637020466397026472:Nat:=0
def PySem.W.Fast.tw11850982111501122482:Nat:=0
def PySem.W.Fast.tw15466135522574665612:Nat:=0
def PySem.W.Fast.tw2634408161045812149:Nat:=0
def PySem.W.Fast.tw17436354460855952671:Nat:=0
def PySem.W.Fast.tw16399227580419508238:Nat:=0
def PySem.W.Fast.tw7701489059146829381:Nat:=0
def PySem.W.Fast.tw12132755049140063503:Nat:=0
def PySem.W.Fast.tw9424160419899097642:Nat:=0
def PySem.W.Fast.tw16006740455022588923:Nat:=0
def PySem.W.Fast.tw2130249054120383935:Nat:=0
def PySem.W.Fast.tw171046837578502329:Nat:=0
def PySem.W.Fast.tw14931056557086659947:Nat:=0
def PySem.W.Fast.tw17518892135937013975:Nat:=0
def PySem.W.Fast.tw2356734741716870471:Nat:=0
def PySem.W.Fast.tw9799305315514265704:Nat:=0
def PySem.W.Fast.tw11664514969939823293:Nat:=0
def PySem.W.Fast.tw9114679719038925587:Nat:=0
def PySem.W.Fast.tw11997587123738692179:Nat:=0
def PySem.W.Fast.tw3443090057424196556:Nat:=0
def PySem.W.Fast.tw7157408694872846476:Nat:=0
def PySem.W.Fast.tw3699003533787480208:Nat:=0
def PySem.W.Fast.tw4834762329533895281:Nat:=0
def PySem.W.Fast.tw16442776000545716274:Nat:=0
def PySem.W.Fast.tw10957233244545142462:Nat:=0
def PySem.W.Fast.tw3080394772469380343:Nat:=0
def PySem.W.Fast.tw4599756761273821262:Nat:=0
def PySem.W.Fast.tw5800535137182282003:Nat:=0
def PySem.W.Fast.tw3191940509696808502:Nat:=0
def PySem.W.Fast.tw10125270109225460962:Nat:=0
def PySem.W.Fast.tw9570242669426390140:Nat:=0
def PySem.W.Fast.tw9547158271426191219:Nat:=0
def PySem.W.Fast.tw10921254038481656550:Nat:=0
def PySem.W.Fast.tw17603742850435388775:Nat:=0
def PySem.W.Fast.tw12058598448476660745:Nat:=0
def PySem.W.Fast.tw14701485130194915882:Nat:=0
def PySem.W.Fast.tw3072138147505023708:Nat:=0
def PySem.W.Fast.tw671050000653853:Nat:=0
def PySem.W.Fast.tw11959612947349044408:Nat:=0
def PySem.W.Fast.tw12338622917526411747:Nat:=0
def PySem.W.Fast.tw14785557541746601970:Nat:=0
def PySem.W.Fast.tw18184604568408807532:Nat:=0
def PySem.W.Fast.tw12755323678173322907:Nat:=0
def PySem.W.Fast.tw5474930370861084817:Nat:=0
def PySem.W.Fast.tw1601331303902699714:Nat:=0
def PySem.W.Fast.tw7725800505156494681:Nat:=0
def PySem.W.Fast.tw4170738056430798999:Nat:=0
def PySem.W.Fast.tw7438185184918147812:Nat:=0
def PySem.W.Fast.tw17304171058934305560:Nat:=0
def PySem.W.Fast.tw9435880085425592387:Nat:=0
def PySem.W.Fast.tw1570486095677937714:Nat:=0
def PySem.W.Fast.tw17805511984264357535:Nat:=0
def PySem.W.Fast.tw7753801490929068171:Nat:=0
def PySem.W.Fast.tw17576696631231915753:Nat:=0
def PySem.W.Fast.tw12404249120952940624:Nat:=0
def PySem.W.Fast.tw698963569064999943:Nat:=0
def PySem.W.Fast.tw18170787118264414053:Nat:=0
def PySem.W.Fast.tw14702846476694610272:Nat:=0
def PySem.W.Fast.tw13030079795509642386:Nat:=0
def PySem.W.Fast.tw11092484780100142249:Nat:=0
def PySem.W.Fast.tw5077961584838938311:Nat:=0
def PySem.W.Fast.tw4692262977315641074:Nat:=0
def PySem.W.Fast.tw9175910370980037232:Nat:=0
def PySem.W.Fast.tw7268922227014621007:Nat:=0
def PySem.W.Fast.tw5095066953360599263:Nat:=0
def PySem.W.Fast.tw8854618563367685919:Nat:=0
def PySem.W.Fast.tw990844283523521517:Nat:=0
def PySem.W.Fast.tw9465160492520896581:Nat:=0
def PySem.W.Fast.tw9129641173647260976:Nat:=0
def PySem.W.Fast.tw17063528284337142665:Nat:=0
def PySem.W.Fast.tw11469436469757036275:Nat:=0
def PySem.W.Fast.tw5246067823999975728:Nat:=0
def PySem.W.Fast.tw81548003559236768:Nat:=0
def PySem.W.Fast.tw6865576649568913242:Nat:=0
def PySem.W.Fast.tw199265491426872569:Nat:=0
def PySem.W.Fast.tw10090689810411650729:Nat:=0
def PySem.W.Fast.tw14028386892643539599:Nat:=0
def PySem.W.Fast.tw8757403181135487572:Nat:=0
def PySem.W.Fast.tw9398515720925055438:Nat:=0
def PySem.W.Fast.tw17837425742271846999:Nat:=0
def PySem.W.Fast.tw11611878770970784933:Nat:=0
namespace Rk
open L2
theorem Qte{l:PySem.W.OpenLaw}{w:Q9}{K:PySem.W.Frag}{h:JU}{mg:Str->Option Value}{fa f1 f2 f3 f4 f5 f6 f7 f8 f9 f10 f11 f12 f13 f14 f15 f16 f17 f18 f19 f20 f21 f22 f23 f24 f25 f26 f27 f28 f29 f30 f31 f32 f33:Addr}(X:K.In h)(G:h.Ns mainGlobals mg)(hfa:mg "law" = some (.ref fa))
  {od1 an1 od2 an2 od3 an3 od4 an4 od5 an5 od6 an6 od7 an7 od8 an8 od9 an9 od10 an10 od11 an11 od12 an12 od13 an13 od14 an14 od15 an15 od16 an16 od17 an17 od18 an18 od19 an19 od20 an20 od21 an21 od22 an22 od23 an23 od24 an24 od25 an25 od26 an26 od27 an27 od28 an28 od29 an29 od30 an30 od31 an31 od32 an32 od33 an33:Option Addr} {sl1 sl2 sl3 sl4 sl5 sl6 sl7 sl8 sl9 sl10 sl11 sl12 sl13 sl14 sl15 sl16 sl17 sl18 sl19 sl20 sl21 sl22 sl23 sl24 sl25 sl26 sl27 sl28 sl29 sl30 sl31 sl32 sl33:Array (Option Value)} {oc1 kV1 dc1 pm1 cd1 ct1 oc2 kV2 dc2 pm2 cd2 ct2 oc3 kV3 dc3 pm3 cd3 ct3 oc4 kV4 dc4 pm4 cd4 ct4 oc5 kV5 dc5 pm5 cd5 ct5 oc6 kV6 dc6 pm6 cd6 ct6 oc7 kV7 dc7 pm7 cd7 ct7 oc8 kV8 dc8 pm8 cd8 ct8 oc9 kV9 dc9 pm9 cd9 ct9 oc10 kV10 dc10 pm10 cd10 ct10 oc11 kV11 dc11 pm11 cd11 ct11 oc12 kV12 dc12 pm12 cd12 ct12 oc13 kV13 dc13 pm13 cd13 ct13 oc14 kV14 dc14 pm14 cd14 ct14 oc15 kV15 dc15 pm15 cd15 ct15 oc16 kV16 dc16 pm16 cd16 ct16 oc17 kV17 dc17 pm17 cd17 ct17 oc18 kV18 dc18 pm18 cd18 ct18 oc19 kV19 dc19 pm19 cd19 ct19 oc20 kV20 dc20 pm20 cd20 ct20 oc21 kV21 dc21 pm21 cd21 ct21 oc22 kV22 dc22 pm22 cd22 ct22 oc23 kV23 dc23 pm23 cd23 ct23 oc24 kV24 dc24 pm24 cd24 ct24 oc25 kV25 dc25 pm25 cd25 ct25 oc26 kV26 dc26 pm26 cd26 ct26 oc27 kV27 dc27 pm27 cd27 ct27 oc28 kV28 dc28 pm28 cd28 ct28 oc29 kV29 dc29 pm29 cd29 ct29 oc30 kV30 dc30 pm30 cd30 ct30 oc31 kV31 dc31 pm31 cd31 ct31 oc32 kV32 dc32 pm32 cd32 ct32 oc33 kV33 dc33 pm33 cd33 ct33:Value}
  (a1:PySem.W.nsIn K mainGlobals "is_whole" = some (some (.ref f1))) (l1:K.lookup f1=some ⟨oc1,od1,.func (PySem.W.fnOf "is_whole" "is_whole" (Jq Qdq) (Ja Qdq) (Qo Qdq) .none kV1 dc1 pm1 an1 cd1 ct1),sl1⟩) (c1:PySem.W.codeIn K cd1 "is_whole" = true) (k1:PySem.W.keepIn K (.ref f1)=true)
  (a2:PySem.W.nsIn K mainGlobals "is_whole_within" = some (some (.ref f2)))(l2:K.lookup f2=some ⟨oc2,od2,.func (PySem.W.fnOf "is_whole_within" "is_whole_within" (Jq QbK) (Ja QbK) (Qo QbK) .none kV2 dc2 pm2 an2 cd2 ct2),sl2⟩)(c2:PySem.W.codeIn K cd2 "is_whole_within" = true)(k2:PySem.W.keepIn K (.ref f2)=true)
  (a3:PySem.W.nsIn K mainGlobals "is_never_falling" = some (some (.ref f3)))(l3:K.lookup f3=some ⟨oc3,od3,.func (PySem.W.fnOf "is_never_falling" "is_never_falling" (Jq Qdr) (Ja Qdr) (Qo Qdr) .none kV3 dc3 pm3 an3 cd3 ct3),sl3⟩)(c3:PySem.W.codeIn K cd3 "is_never_falling" = true)(k3:PySem.W.keepIn K (.ref f3)=true)
  (a4:PySem.W.nsIn K mainGlobals "is_stairs" = some (some (.ref f4)))(l4:K.lookup f4=some ⟨oc4,od4,.func (PySem.W.fnOf "is_stairs" "is_stairs" (Jq QbL) (Ja QbL) (Qo QbL) .none kV4 dc4 pm4 an4 cd4 ct4),sl4⟩)(c4:PySem.W.codeIn K cd4 "is_stairs" = true)(k4:PySem.W.keepIn K (.ref f4)=true)
  (a5:PySem.W.nsIn K mainGlobals "refuse_no_stairs" = some (some (.ref f5)))(l5:K.lookup f5=some ⟨oc5,od5,.func (PySem.W.fnOf "refuse_no_stairs" "refuse_no_stairs" (Jq QhI) (Ja QhI) (Qo QhI) .none kV5 dc5 pm5 an5 cd5 ct5),sl5⟩)(c5:PySem.W.codeIn K cd5 "refuse_no_stairs" = true)(k5:PySem.W.keepIn K (.ref f5)=true)
  (a6:PySem.W.nsIn K mainGlobals "stair_board" = some (some (.ref f6)))(l6:K.lookup f6=some ⟨oc6,od6,.func (PySem.W.fnOf "stair_board" "stair_board" (Jq QbM) (Ja QbM) (Qo QbM) .none kV6 dc6 pm6 an6 cd6 ct6),sl6⟩)(c6:PySem.W.codeIn K cd6 "stair_board" = true)(k6:PySem.W.keepIn K (.ref f6)=true)
  (a7:PySem.W.nsIn K mainGlobals "heads" = some (some (.ref f7)))(l7:K.lookup f7=some ⟨oc7,od7,.func (PySem.W.fnOf "heads" "heads" (Jq Qdt) (Ja Qdt) (Qo Qdt) .none kV7 dc7 pm7 an7 cd7 ct7),sl7⟩)(c7:PySem.W.codeIn K cd7 "heads" = true)(k7:PySem.W.keepIn K (.ref f7)=true)
  (a8:PySem.W.nsIn K mainGlobals "multiplied" = some (some (.ref f8)))(l8:K.lookup f8=some ⟨oc8,od8,.func (PySem.W.fnOf "multiplied" "multiplied" (Jq QhL) (Ja QhL) (Qo QhL) .none kV8 dc8 pm8 an8 cd8 ct8),sl8⟩)(c8:PySem.W.codeIn K cd8 "multiplied" = true)(k8:PySem.W.keepIn K (.ref f8)=true)
  (a9:PySem.W.nsIn K mainGlobals "every_stand" = some (some (.ref f9)))(l9:K.lookup f9=some ⟨oc9,od9,.func (PySem.W.fnOf "every_stand" "every_stand" (Jq Qdu) (Ja Qdu) (Qo Qdu) .none kV9 dc9 pm9 an9 cd9 ct9),sl9⟩)(c9:PySem.W.codeIn K cd9 "every_stand" = true)(k9:PySem.W.keepIn K (.ref f9)=true)
  (a10:PySem.W.nsIn K mainGlobals "followers" = some (some (.ref f10)))(l10:K.lookup f10=some ⟨oc10,od10,.func (PySem.W.fnOf "followers" "followers" (Jq sFol) (Ja sFol) (Qo sFol) .none kV10 dc10 pm10 an10 cd10 ct10),sl10⟩)(c10:PySem.W.codeIn K cd10 "followers" = true)(k10:PySem.W.keepIn K (.ref f10)=true)
  (a11:PySem.W.nsIn K mainGlobals "row_behind" = some (some (.ref f11)))(l11:K.lookup f11=some ⟨oc11,od11,.func (PySem.W.fnOf "row_behind" "row_behind" (Jq QhG) (Ja QhG) (Qo QhG) .none kV11 dc11 pm11 an11 cd11 ct11),sl11⟩)(c11:PySem.W.codeIn K cd11 "row_behind" = true)(k11:PySem.W.keepIn K (.ref f11)=true)
  (a12:PySem.W.nsIn K mainGlobals "cells_left" = some (some (.ref f12)))(l12:K.lookup f12=some ⟨oc12,od12,.func (PySem.W.fnOf "cells_left" "cells_left" (Jq Qdv) (Ja Qdv) (Qo Qdv) .none kV12 dc12 pm12 an12 cd12 ct12),sl12⟩)(c12:PySem.W.codeIn K cd12 "cells_left" = true)(k12:PySem.W.keepIn K (.ref f12)=true)
  (a13:PySem.W.nsIn K mainGlobals "is_left" = some (some (.ref f13)))(l13:K.lookup f13=some ⟨oc13,od13,.func (PySem.W.fnOf "is_left" "is_left" (Jq QbN) (Ja QbN) (Qo QbN) .none kV13 dc13 pm13 an13 cd13 ct13),sl13⟩)(c13:PySem.W.codeIn K cd13 "is_left" = true)(k13:PySem.W.keepIn K (.ref f13)=true)
  (a14:PySem.W.nsIn K mainGlobals "lightest" = some (some (.ref f14)))(l14:K.lookup f14=some ⟨oc14,od14,.func (PySem.W.fnOf "lightest" "lightest" (Jq Qds) (Ja Qds) (Qo Qds) .none kV14 dc14 pm14 an14 cd14 ct14),sl14⟩)(c14:PySem.W.codeIn K cd14 "lightest" = true)(k14:PySem.W.keepIn K (.ref f14)=true)
  (a15:PySem.W.nsIn K mainGlobals "weight" = some (some (.ref f15)))(l15:K.lookup f15=some ⟨oc15,od15,.func (PySem.W.fnOf "weight" "weight" (Jq sWt) (Ja sWt) (Qo sWt) .none kV15 dc15 pm15 an15 cd15 ct15),sl15⟩)(c15:PySem.W.codeIn K cd15 "weight" = true)(k15:PySem.W.keepIn K (.ref f15)=true)
  (a16:PySem.W.nsIn K mainGlobals "ones_product" = some (some (.ref f16)))(l16:K.lookup f16=some ⟨oc16,od16,.func (PySem.W.fnOf "ones_product" "ones_product" (Jq QhK) (Ja QhK) (Qo QhK) .none kV16 dc16 pm16 an16 cd16 ct16),sl16⟩)(c16:PySem.W.codeIn K cd16 "ones_product" = true)(k16:PySem.W.keepIn K (.ref f16)=true)
  (a17:PySem.W.nsIn K mainGlobals "refuse_too_many" = some (some (.ref f17)))(l17:K.lookup f17=some ⟨oc17,od17,.func (PySem.W.fnOf "refuse_too_many" "refuse_too_many" (Jq QhJ) (Ja QhJ) (Qo QhJ) .none kV17 dc17 pm17 an17 cd17 ct17),sl17⟩)(c17:PySem.W.codeIn K cd17 "refuse_too_many" = true)(k17:PySem.W.keepIn K (.ref f17)=true)
  (a18:PySem.W.nsIn K mainGlobals "refuse_no_size" = some (some (.ref f18)))(l18:K.lookup f18=some ⟨oc18,od18,.func (PySem.W.fnOf "refuse_no_size" "refuse_no_size" (Jq QhH) (Ja QhH) (Qo QhH) .none kV18 dc18 pm18 an18 cd18 ct18),sl18⟩)(c18:PySem.W.codeIn K cd18 "refuse_no_size" = true)(k18:PySem.W.keepIn K (.ref f18)=true)
  (a19:PySem.W.nsIn K mainGlobals "_law_cell_at" = some (some (.ref f19)))(l19:K.lookup f19=some ⟨oc19,od19,.func (PySem.W.fnOf "_law_cell_at" "_law_cell_at" (Jq Qb1) (Ja Qb1) (Qo Qb1) .none kV19 dc19 pm19 an19 cd19 ct19),sl19⟩)(c19:PySem.W.codeIn K cd19 "_law_cell_at" = true)(k19:PySem.W.keepIn K (.ref f19)=true)
  (a20:PySem.W.nsIn K mainGlobals "_law_pot" = some (some (.ref f20)))(l20:K.lookup f20=some ⟨oc20,od20,.func (PySem.W.fnOf "_law_pot" "_law_pot" (Jq lPot) (Ja lPot) (Qo lPot) .none kV20 dc20 pm20 an20 cd20 ct20),sl20⟩)(c20:PySem.W.codeIn K cd20 "_law_pot" = true)(k20:PySem.W.keepIn K (.ref f20)=true)
  (a21:PySem.W.nsIn K mainGlobals "_law_take" = some (some (.ref f21)))(l21:K.lookup f21=some ⟨oc21,od21,.func (PySem.W.fnOf "_law_take" "_law_take" (Jq QhV) (Ja QhV) (Qo QhV) .none kV21 dc21 pm21 an21 cd21 ct21),sl21⟩)(c21:PySem.W.codeIn K cd21 "_law_take" = true)(k21:PySem.W.keepIn K (.ref f21)=true)
  (a22:PySem.W.nsIn K mainGlobals "_law_whole" = some (some (.ref f22)))(l22:K.lookup f22=some ⟨oc22,od22,.func (PySem.W.fnOf "_law_whole" "_law_whole" (Jq Qcf) (Ja Qcf) (Qo Qcf) .none kV22 dc22 pm22 an22 cd22 ct22),sl22⟩)(c22:PySem.W.codeIn K cd22 "_law_whole" = true)(k22:PySem.W.keepIn K (.ref f22)=true)
  (a23:PySem.W.nsIn K mainGlobals "_law_same" = some (some (.ref f23)))(l23:K.lookup f23=some ⟨oc23,od23,.func (PySem.W.fnOf "_law_same" "_law_same" (Jq QhW) (Ja QhW) (Qo QhW) .none kV23 dc23 pm23 an23 cd23 ct23),sl23⟩)(c23:PySem.W.codeIn K cd23 "_law_same" = true)(k23:PySem.W.keepIn K (.ref f23)=true)
  (a24:PySem.W.nsIn K mainGlobals "_law_stairs" = some (some (.ref f24)))(l24:K.lookup f24=some ⟨oc24,od24,.func (PySem.W.fnOf "_law_stairs" "_law_stairs" (Jq QbZ) (Ja QbZ) (Qo QbZ) .none kV24 dc24 pm24 an24 cd24 ct24),sl24⟩)(c24:PySem.W.codeIn K cd24 "_law_stairs" = true)(k24:PySem.W.keepIn K (.ref f24)=true)
  (a25:PySem.W.nsIn K mainGlobals "_law_stair_board" = some (some (.ref f25)))(l25:K.lookup f25=some ⟨oc25,od25,.func (PySem.W.fnOf "_law_stair_board" "_law_stair_board" (Jq Qb0) (Ja Qb0) (Qo Qb0) .none kV25 dc25 pm25 an25 cd25 ct25),sl25⟩)(c25:PySem.W.codeIn K cd25 "_law_stair_board" = true)(k25:PySem.W.keepIn K (.ref f25)=true)
  (a26:PySem.W.nsIn K mainGlobals "_law_heads" = some (some (.ref f26)))(l26:K.lookup f26=some ⟨oc26,od26,.func (PySem.W.fnOf "_law_heads" "_law_heads" (Jq QdJ) (Ja QdJ) (Qo QdJ) .none kV26 dc26 pm26 an26 cd26 ct26),sl26⟩)(c26:PySem.W.codeIn K cd26 "_law_heads" = true)(k26:PySem.W.keepIn K (.ref f26)=true)
  (a27:PySem.W.nsIn K mainGlobals "_law_stands" = some (some (.ref f27)))(l27:K.lookup f27=some ⟨oc27,od27,.func (PySem.W.fnOf "_law_stands" "_law_stands" (Jq QbY) (Ja QbY) (Qo QbY) .none kV27 dc27 pm27 an27 cd27 ct27),sl27⟩)(c27:PySem.W.codeIn K cd27 "_law_stands" = true)(k27:PySem.W.keepIn K (.ref f27)=true)
  (a28:PySem.W.nsIn K mainGlobals "_law_left" = some (some (.ref f28)))(l28:K.lookup f28=some ⟨oc28,od28,.func (PySem.W.fnOf "_law_left" "_law_left" (Jq QhY) (Ja QhY) (Qo QhY) .none kV28 dc28 pm28 an28 cd28 ct28),sl28⟩)(c28:PySem.W.codeIn K cd28 "_law_left" = true)(k28:PySem.W.keepIn K (.ref f28)=true)
  (a29:PySem.W.nsIn K mainGlobals "_law_times" = some (some (.ref f29)))(l29:K.lookup f29=some ⟨oc29,od29,.func (PySem.W.fnOf "_law_times" "_law_times" (Jq QdH) (Ja QdH) (Qo QdH) .none kV29 dc29 pm29 an29 cd29 ct29),sl29⟩)(c29:PySem.W.codeIn K cd29 "_law_times" = true)(k29:PySem.W.keepIn K (.ref f29)=true)
  (a30:PySem.W.nsIn K mainGlobals "_law_few" = some (some (.ref f30)))(l30:K.lookup f30=some ⟨oc30,od30,.func (PySem.W.fnOf "_law_few" "_law_few" (Jq lFew) (Ja lFew) (Qo lFew) .none kV30 dc30 pm30 an30 cd30 ct30),sl30⟩)(c30:PySem.W.codeIn K cd30 "_law_few" = true)(k30:PySem.W.keepIn K (.ref f30)=true)
  (a31:PySem.W.nsIn K mainGlobals "_law_lightest" = some (some (.ref f31)))(l31:K.lookup f31=some ⟨oc31,od31,.func (PySem.W.fnOf "_law_lightest" "_law_lightest" (Jq QdI) (Ja QdI) (Qo QdI) .none kV31 dc31 pm31 an31 cd31 ct31),sl31⟩)(c31:PySem.W.codeIn K cd31 "_law_lightest" = true)(k31:PySem.W.keepIn K (.ref f31)=true)
  (a32:PySem.W.nsIn K mainGlobals "_law_product" = some (some (.ref f32)))(l32:K.lookup f32=some ⟨oc32,od32,.func (PySem.W.fnOf "_law_product" "_law_product" (Jq QhX) (Ja QhX) (Qo QhX) .none kV32 dc32 pm32 an32 cd32 ct32),sl32⟩)(c32:PySem.W.codeIn K cd32 "_law_product" = true)(k32:PySem.W.keepIn K (.ref f32)=true)
  (a33:PySem.W.nsIn K mainGlobals "law" = some (some (.ref f33)))(l33:K.lookup f33=some ⟨oc33,od33,.func (PySem.W.fnOf "law" "law" (Jq sLaw) (Ja sLaw) (Qo sLaw) .none kV33 dc33 pm33 an33 cd33 ct33),sl33⟩)(c33:PySem.W.codeIn K cd33 "law" = true)(k33:PySem.W.keepIn K (.ref f33)=true)
  (z1:PySem.W.nsIn K mainGlobals "isinstance" = some none)
  (z2:PySem.W.nsIn K mainGlobals "int" = some none)
  (z3:PySem.W.nsIn K mainGlobals "bool" = some none)
  (z4:PySem.W.nsIn K mainGlobals "str" = some none)
  (z5:PySem.W.nsIn K mainGlobals "tuple" = some none)
  (z6:PySem.W.nsIn K mainGlobals "list" = some none)
  (z7:PySem.W.nsIn K mainGlobals "all" = some none)
  (z8:PySem.W.nsIn K mainGlobals "len" = some none)
  (z9:PySem.W.nsIn K mainGlobals "zip" = some none)
  (z10:PySem.W.nsIn K mainGlobals "enumerate" = some none)
  (z11:PySem.W.nsIn K mainGlobals "range" = some none)
  (z12:PySem.W.nsIn K mainGlobals "max" = some none)
  (z13:PySem.W.nsIn K mainGlobals "min" = some none)
  (z14:PySem.W.nsIn K mainGlobals "sorted" = some none)
  (z15:PySem.W.nsIn K mainGlobals "sum" = some none)
  (z16:PySem.W.nsIn K mainGlobals "set" = some none)
  (z17:PySem.W.nsIn K mainGlobals "any" = some none)
  (z18:PySem.W.nsIn K mainGlobals "reversed" = some none)
  (z19:PySem.W.nsIn K mainGlobals "divmod" = some none)
  {tA:_} (aA:PySem.W.nsIn K mainGlobals "MOST_LINES" = some (some (.int 6 tA)))
  {tB:_} (aB:PySem.W.nsIn K mainGlobals "MOST_CELLS" = some (some (.int 20 tB)))
  {tC:_} (aC:PySem.W.nsIn K mainGlobals "MOST_ADDED" = some (some (.int 8 tC)))
  {tc tP:Addr} (tT:PySem.W.tabIn K "lightest" = some (tc,tP))
  :
  ∃fd:QB,(∀(s:Shared)(v:Value),Qlf s fd ⟨[v],[]⟩ [("_law_script",v)])/\∀base:JU,K.In base->base.Ns mainGlobals mg->PySem.W.CodeHd base tc tP->Qa6 base mg->FnOk l.prog w K mg base CX0 8 fa fd ["_law_script"] (spT tP Qp3 (Dl.Qdo K)):=by
 have e:=hfa.symm.trans (PySem.W.mg_of X G a33);cases e;have T:=(⟨(PySem.W.mg_none_of X G z1),(PySem.W.mg_none_of X G z2),(PySem.W.mg_none_of X G z3),(PySem.W.mg_none_of X G z4),(PySem.W.mg_none_of X G z5),(PySem.W.mg_none_of X G z6),(PySem.W.mg_none_of X G z7),(PySem.W.mg_none_of X G z8),(PySem.W.mg_none_of X G z9),(PySem.W.mg_none_of X G z10),(PySem.W.mg_none_of X G z11),(PySem.W.mg_none_of X G z12),(PySem.W.mg_none_of X G z13),(PySem.W.mg_none_of X G z14),(PySem.W.mg_none_of X G z15),(PySem.W.mg_none_of X G z16),(PySem.W.mg_none_of X G z17),(PySem.W.mg_none_of X G z18),(PySem.W.mg_none_of X G z19)⟩:GlbA mg);have F1:=J5 (st:=Qdq) l1 c1 k1;have b1:=F1.binds (ps:=["thing"]) λ_ _ _ _ _ _ us hl=>match us,hl with | [_],_=>rfl
 have m1:=PySem.W.mg_of X G a1;have F2:=J5 (st:=QbK) l2 c2 k2;have b2:=F2.binds (ps:=["thing", "least", "most"]) λ_ _ _ _ _ _ us hl=>match us,hl with | [_,_,_],_=>rfl
 have m2:=PySem.W.mg_of X G a2;have F3:=J5 (st:=Qdr) l3 c3 k3;have b3:=F3.binds (ps:=["things"]) λ_ _ _ _ _ _ us hl=>match us,hl with | [_],_=>rfl
 have m3:=PySem.W.mg_of X G a3;have F4:=J5 (st:=QbL) l4 c4 k4;have b4:=F4.binds (ps:=["thing"]) λ_ _ _ _ _ _ us hl=>match us,hl with | [_],_=>rfl
 have m4:=PySem.W.mg_of X G a4;have F5:=J5 (st:=QhI) l5 c5 k5;have b5:=F5.binds (ps:=["stairs"]) λ_ _ _ _ _ _ us hl=>match us,hl with | [_],_=>rfl
 have m5:=PySem.W.mg_of X G a5;have F6:=J5 (st:=QbM) l6 c6 k6;have b6:=F6.binds (ps:=["stairs"]) λ_ _ _ _ _ _ us hl=>match us,hl with | [_],_=>rfl
 have m6:=PySem.W.mg_of X G a6;have F7:=J5 (st:=Qdt) l7 c7 k7;have b7:=F7.binds (ps:=["stairs"]) λ_ _ _ _ _ _ us hl=>match us,hl with | [_],_=>rfl
 have m7:=PySem.W.mg_of X G a7;have F8:=J5 (st:=QhL) l8 c8 k8;have b8:=F8.binds (ps:=["one", "other"]) λ_ _ _ _ _ _ us hl=>match us,hl with | [_,_],_=>rfl
 have m8:=PySem.W.mg_of X G a8;have F9:=J5 (st:=Qdu) l9 c9 k9;have b9:=F9.binds (ps:=["board", "size"]) λ_ _ _ _ _ _ us hl=>match us,hl with | [_,_],_=>rfl
 have m9:=PySem.W.mg_of X G a9;have F10:=J5 (st:=sFol) l10 c10 k10;have b10:=F10.binds (ps:=["board", "start"]) λ_ _ _ _ _ _ us hl=>match us,hl with | [_,_],_=>rfl
 have m10:=PySem.W.mg_of X G a10;have F11:=J5 (st:=QhG) l11 c11 k11;have b11:=F11.binds (ps:=["start"]) λ_ _ _ _ _ _ us hl=>match us,hl with | [_],_=>rfl
 have m11:=PySem.W.mg_of X G a11;have F12:=J5 (st:=Qdv) l12 c12 k12;have b12:=F12.binds (ps:=["board", "stand"]) λ_ _ _ _ _ _ us hl=>match us,hl with | [_,_],_=>rfl
 have m12:=PySem.W.mg_of X G a12;have F13:=J5 (st:=QbN) l13 c13 k13;have b13:=F13.binds (ps:=["stand", "cell"]) λ_ _ _ _ _ _ us hl=>match us,hl with | [_,_],_=>rfl
 have m13:=PySem.W.mg_of X G a13;have F14:=J5 (st:=Qds) l14 c14 k14;have b14:=F14.binds (ps:=["stairs", "size"]) λ_ _ _ _ _ _ us hl=>match us,hl with | [_,_],_=>rfl
 have m14:=PySem.W.mg_of X G a14;have F15:=J5 (st:=sWt) l15 c15 k15;have b15:=F15.binds (ps:=["board", "stand"]) λ_ _ _ _ _ _ us hl=>match us,hl with | [_,_],_=>rfl
 have m15:=PySem.W.mg_of X G a15;have F16:=J5 (st:=QhK) l16 c16 k16;have b16:=F16.binds (ps:=["stairs", "number"]) λ_ _ _ _ _ _ us hl=>match us,hl with | [_,_],_=>rfl
 have m16:=PySem.W.mg_of X G a16;have F17:=J5 (st:=QhJ) l17 c17 k17;have b17:=F17.binds (ps:=["stairs"]) λ_ _ _ _ _ _ us hl=>match us,hl with | [_],_=>rfl
 have m17:=PySem.W.mg_of X G a17;have F18:=J5 (st:=QhH) l18 c18 k18;have b18:=F18.binds (ps:=["stairs", "size"]) λ_ _ _ _ _ _ us hl=>match us,hl with | [_,_],_=>rfl
 have m18:=PySem.W.mg_of X G a18;have F19:=J5 (st:=Qb1) l19 c19 k19;have b19:=F19.binds (ps:=["_law_script", "_law_k"]) λ_ _ _ _ _ _ us hl=>match us,hl with | [_,_],_=>rfl
 have m19:=PySem.W.mg_of X G a19;have F20:=J5 (st:=lPot) l20 c20 k20;have b20:=F20.binds (ps:=["_law_cell"]) λ_ _ _ _ _ _ us hl=>match us,hl with | [_],_=>rfl
 have m20:=PySem.W.mg_of X G a20;have F21:=J5 (st:=QhV) l21 c21 k21;have b21:=F21.binds (ps:=["_law_pot_here", "_law_far"]) λ_ _ _ _ _ _ us hl=>match us,hl with | [_,_],_=>rfl
 have m21:=PySem.W.mg_of X G a21;have F22:=J5 (st:=Qcf) l22 c22 k22;have b22:=F22.binds (ps:=["_law_found"]) λ_ _ _ _ _ _ us hl=>match us,hl with | [_],_=>rfl
 have m22:=PySem.W.mg_of X G a22;have F23:=J5 (st:=QhW) l23 c23 k23;have b23:=F23.binds (ps:=["_law_found", "_law_due"]) λ_ _ _ _ _ _ us hl=>match us,hl with | [_,_],_=>rfl
 have m23:=PySem.W.mg_of X G a23;have F24:=J5 (st:=QbZ) l24 c24 k24;have b24:=F24.binds (ps:=["_law_pot_here", "_law_columns", "_law_most"]) λ_ _ _ _ _ _ us hl=>match us,hl with | [_,_,_],_=>rfl
 have m24:=PySem.W.mg_of X G a24;have F25:=J5 (st:=Qb0) l25 c25 k25;have b25:=F25.binds (ps:=["_law_stairs_here"]) λ_ _ _ _ _ _ us hl=>match us,hl with | [_],_=>rfl
 have m25:=PySem.W.mg_of X G a25;have F26:=J5 (st:=QdJ) l26 c26 k26;have b26:=F26.binds (ps:=["_law_stairs_here"]) λ_ _ _ _ _ _ us hl=>match us,hl with | [_],_=>rfl
 have m26:=PySem.W.mg_of X G a26;have F27:=J5 (st:=QbY) l27 c27 k27;have b27:=F27.binds (ps:=["_law_board", "_law_size"]) λ_ _ _ _ _ _ us hl=>match us,hl with | [_,_],_=>rfl
 have m27:=PySem.W.mg_of X G a27;have F28:=J5 (st:=QhY) l28 c28 k28;have b28:=F28.binds (ps:=["_law_board", "_law_stand"]) λ_ _ _ _ _ _ us hl=>match us,hl with | [_,_],_=>rfl
 have m28:=PySem.W.mg_of X G a28;have F29:=J5 (st:=QdH) l29 c29 k29;have b29:=F29.binds (ps:=["_law_one", "_law_other"]) λ_ _ _ _ _ _ us hl=>match us,hl with | [_,_],_=>rfl
 have m29:=PySem.W.mg_of X G a29;have F30:=J5 (st:=lFew) l30 c30 k30;have b30:=F30.binds (ps:=["_law_pot_here", "_law_most"]) λ_ _ _ _ _ _ us hl=>match us,hl with | [_,_],_=>rfl
 have m30:=PySem.W.mg_of X G a30;have F31:=J5 (st:=QdI) l31 c31 k31;have b31:=F31.binds (ps:=["_law_stairs_here", "_law_size"]) λ_ _ _ _ _ _ us hl=>match us,hl with | [_,_],_=>rfl
 have m31:=PySem.W.mg_of X G a31;have F32:=J5 (st:=QhX) l32 c32 k32;have b32:=F32.binds (ps:=["_law_stairs_here", "_law_number"]) λ_ _ _ _ _ _ us hl=>match us,hl with | [_,_],_=>rfl
 have m32:=PySem.W.mg_of X G a32;have F33:=J5 (st:=sLaw) l33 c33 k33;refine⟨PySem.W.fnOf "law" "law" (Jq sLaw) (Ja sLaw) (Qo sLaw) .none kV33 dc33 pm33 an33 cd33 ct33,λs v=>.of_eq rfl,λbase _ _ hC hB=>?_⟩;have G1:FnOk l.prog w K mg base CX0 1 f1 _ ["thing"] (Dl.JK false Dl.QeU):=Qml F1 T ;have G2:FnOk l.prog w K mg base CX0 2 f2 _ ["thing", "least", "most"] (Dl.JK false QcA):=Qjw F2 T m1 G1 b1 k1;have G3:FnOk l.prog w K mg base CX0 1 f3 _ ["things"] (Dl.JK false QjL):=Qmo F3 T ;have G4:FnOk l.prog w K mg base CX0 3 f4 _ ["thing"] (Dl.JK false QfP):=Qjz ⟨_,PySem.W.mg_of X G aA⟩ F4 T m2 G2 b2 k2 m3 G3 b3 k3;have G5:FnOk l.prog w K mg base CX0 4 f5 _ ["stairs"] (Dl.JK false Qi2):=Qmn F5 T m4 G4 b4 k4;have G6:FnOk l.prog w K mg base CX0 5 f6 _ ["stairs"] (Dl.JK false Quc):=QjA F6 T m5 G5 b5 k5;have G11:FnOk l.prog w K mg base CX0 1 f11 _ ["start"] (Dl.JK false Qod):=Qo6 F11 T ;have G10:FnOk l.prog w K mg base CX0 2 f10 _ ["board", "start"] (Dl.JK false QuN):=Qsq F10 T m11 G11 b11 k11;have G9:FnOk l.prog w K mg base CX0 3 f9 _ ["board", "size"] (Dl.JK true evD):=Quy F9 T m10 G10 b10 k10;have G13:FnOk l.prog w K mg base CX0 1 f13 _ ["stand", "cell"] (Dl.JK false Qga):=QjF F13 T ;have G12:FnOk l.prog w K mg base CX0 2 f12 _ ["board", "stand"] (Dl.JK false QkD):=Qmt F12 T m13 G13 b13 k13;have G15:FnOk l.prog w K mg base CX0 3 f15 _ ["board", "stand"] (Dl.JK false wtD):=Qjy F15 T m12 G12 b12 k12;have G17:FnOk l.prog w K mg base CX0 5 f17 _ ["stairs"] (Dl.JK false QlD):=Qo8 ⟨_,PySem.W.mg_of X G aB⟩ F17 T m5 G5 b5 k5;have G18:FnOk l.prog w K mg base CX0 3 f18 _ ["stairs", "size"] (Dl.JK false Qof):=Qo7 F18 T m2 G2 b2 k2;have G14:FnOk l.prog w K mg base CX0 6 f14 _ ["stairs", "size"] (spT tP Qp3 (Dl.JK false QjW)):=Qmr (PySem.W.law_code X G tT (PySem.W.mg_of X G a14) (X _ _ l14) rfl) hC hB F14 T m17 G17 b17 k17 m18 G18 b18 k18 m6 G6 b6 k6 m9 G9 b9 k9 m15 G15 b15 k15;have G7:FnOk l.prog w K mg base CX0 5 f7 _ ["stairs"] (Dl.JK true QdM):=Qms F7 T m5 G5 b5 k5;have G8:FnOk l.prog w K mg base CX0 1 f8 _ ["one", "other"] (Dl.JK true Qpg):=Qpa F8 T ;have G16:FnOk l.prog w K mg base CX0 6 f16 _ ["stairs", "number"] (Dl.JK true Qo4):=Qo9 ⟨_,PySem.W.mg_of X G aC⟩ F16 T m17 G17 b17 k17 m2 G2 b2 k2 m7 G7 b7 k7 m8 G8 b8 k8;have G19:FnOk l.prog w K mg base CX0 1 f19 _ ["_law_script", "_law_k"] (Qbn K):=QjG F19 T ;have G20:FnOk l.prog w K mg base CX0 1 f20 _ ["_law_cell"] (Dl.JK true Dl.Qun):=(Qso F20 T).imp λ_ _ _ _ h=>Dl.Qum h
 have G21:FnOk l.prog w K mg base CX0 1 f21 _ ["_law_pot_here", "_law_far"] (Dl.JK true Dl.QiH):=(Qo5 F21 T).imp λ_ _ _ _ h=>Dl.Qro h
 have G22:FnOk l.prog w K mg base CX0 1 f22 _ ["_law_found"] (Dl.JK false Dl.QeU):=QjC F22 T ;have G23:FnOk l.prog w K mg base CX0 4 f23 _ ["_law_found", "_law_due"] (Dl.JK false (Dl.Qob 2)):=(QjB F23 T m23 b23 k23 m22 (Qjx F22 T) b22 k22 3).imp λ_ _ _ _ h=>Dl.Qrx h
 have G24:FnOk l.prog w K mg base CX0 2 f24 _ ["_law_pot_here", "_law_columns", "_law_most"] (Dl.JK false Qep):=QhP F24 T m21 G21 b21 k21;have G25:FnOk l.prog w K mg base CX0 1 f25 _ ["_law_stairs_here"] (Dl.JK false Qeq):=QhQ F25 T ;have G26:FnOk l.prog w K mg base CX0 1 f26 _ ["_law_stairs_here"] (Dl.JK true QdM):=QjE F26 T ;have G27:FnOk l.prog w K mg base CX0 1 f27 _ ["_law_board", "_law_size"] (Dl.JK false lev):=QhO F27 T ;have G28:FnOk l.prog w K mg base CX0 1 f28 _ ["_law_board", "_law_stand"] (Dl.JK false QjV):=Qmq F28 T ;have G29:FnOk l.prog w K mg base CX0 1 f29 _ ["_law_one", "_law_other"] (Dl.JK true QiE):=Qmm F29 T ;have G30:FnOk l.prog w K mg base CX0 3 f30 _ ["_law_pot_here", "_law_most"] (Dl.JK false Qkh):=Qsr F30 T m21 G21 b21 k21 m24 G24 b24 k24;have G31:FnOk l.prog w K mg base CX0 2 f31 _ ["_law_stairs_here", "_law_size"] (Dl.JK false Qf7):=QjD F31 T m25 G25 b25 k25 m28 G28 b28 k28 m27 G27 b27 k27;have G32:FnOk l.prog w K mg base CX0 2 f32 _ ["_law_stairs_here", "_law_number"] (Dl.JK false QjT):=Qmp F32 T m26 G26 b26 k26 m29 G29 b29 k29;exact Qsp F33 T m19 G19 b19 k19 m20 G20 b20 k20 m21 G21 b21 k21 m30 G30 b30 k30 m14 G14 b14 k14 m31 G31 b31 k31 m23 G23 b23 k23 m32 G32 b32 k32 m16 G16 b16 k16
theorem QvE{tc tP:Addr}{l:PySem.W.OpenLaw}{q:QF}{loose:List Str}{XP:(Str->Option Value)->JU->Prop}{YP:Q9->JU->Prop}{d:DefRec}{K:Params->PySem.W.Frag}(hn:l.most=some 63)(hdf:d.params.defaults=[])
  (hY:∀(w:Q9)(h:JU),YP w h->(K w.params).In h)(hTb:∀(w:Q9)(h:JU),YP w h->h.get? tP=some (PySem.W.tabObj #[]))
  (hno:∀w:Q9,PySem.W.noTabs (K w.params)=true)(hCd:∀w:Q9,PySem.W.codeHdIn (K w.params) tc tP=true)
  (F:∀(w:Q9)(mg:Str->Option Value)(fa:Addr)(h:JU),(K w.params).In h->h.Ns mainGlobals mg->mg d.name=some (.ref fa) ->
   ∃fd:QB,(∀(s:Shared)(u:Value),Qlf s fd ⟨[u],[]⟩ [("_law_script",u)])/\∀base:JU,(K w.params).In base->base.Ns mainGlobals mg->PySem.W.CodeHd base tc tP->Qa6 base mg->FnOk l.prog w (K w.params) mg base CX0 8 fa fd ["_law_script"] (spT tP Qp3 (Dl.Qdo (K w.params)))) :
  PySem.W.WalkO q loose XP YP l.row.toRowW d [] (λf vs=>PySem.call f vs):=
 L2.Qli (n:=63) (k:=8) (x := "_law_script") (CX:=λ_=>CX0) (sp:=λw=>(Dl.Qdo (K w.params))) hn (by decide) hdf ⟨rfl,by decide,by decide⟩ hY F hno hTb hCd (λ_ _ a ns hl hS=>⟨a,ns,rfl,hS,hl,λ_=>rfl⟩) λ_ _ _ _ _ z=>z
end Rk
open PySem.W
set_option maxRecDepth 100000 in
set_option maxHeartbeats 0 in
theorem PySem.Challenge.cw_rooklands_k73_least_weights_and_products_holds : PySem.Challenge.rw_rooklands_k73_least_weights_and_products.Holds := by
 w_on;o_law;k_head;(case hw=>w_witness2)
 k_fill
 refine Rk.QvE (l:=PySem.Challenge.rw_rooklands_k73_least_weights_and_products) (tc:=156) (tP:=152) rfl rfl (λw h Y=>PySem.W.km_in_of Y) (λw h Y=>PySem.W.km_tabs_of Y _ (List.Mem.head _)) ?hNoT ?hCdT ?F
 case hNoT=>intro w;kernel_rfl
 case hCdT=>intro w;kernel_rfl
 case F=>
  intro w mg fa h KX G hmg;refine' Rk.Qte KX G hmg ?a1 ?l1 ?c1 ?k1 ?a2 ?l2 ?c2 ?k2 ?a3 ?l3 ?c3 ?k3 ?a4 ?l4 ?c4 ?k4 ?a5 ?l5 ?c5 ?k5 ?a6 ?l6 ?c6 ?k6 ?a7 ?l7 ?c7 ?k7 ?a8 ?l8 ?c8 ?k8 ?a9 ?l9 ?c9 ?k9 ?a10 ?l10 ?c10 ?k10 ?a11 ?l11 ?c11 ?k11 ?a12 ?l12 ?c12 ?k12 ?a13 ?l13 ?c13 ?k13 ?a14 ?l14 ?c14 ?k14 ?a15 ?l15 ?c15 ?k15 ?a16 ?l16 ?c16 ?k16 ?a17 ?l17 ?c17 ?k17 ?a18 ?l18 ?c18 ?k18 ?a19 ?l19 ?c19 ?k19 ?a20 ?l20 ?c20 ?k20 ?a21 ?l21 ?c21 ?k21 ?a22 ?l22 ?c22 ?k22 ?a23 ?l23 ?c23 ?k23 ?a24 ?l24 ?c24 ?k24 ?a25 ?l25 ?c25 ?k25 ?a26 ?l26 ?c26 ?k26 ?a27 ?l27 ?c27 ?k27 ?a28 ?l28 ?c28 ?k28 ?a29 ?l29 ?c29 ?k29 ?a30 ?l30 ?c30 ?k30 ?a31 ?l31 ?c31 ?k31 ?a32 ?l32 ?c32 ?k32 ?a33 ?l33 ?c33 ?k33 ?z1 ?z2 ?z3 ?z4 ?z5 ?z6 ?z7 ?z8 ?z9 ?z10 ?z11 ?z12 ?z13 ?z14 ?z15 ?z16 ?z17 ?z18 ?z19 ?aA ?aB ?aC ?tT
  (case a1=>k_is)
  (case l1=>k_is)
  (case c1=>k_is)
  (case k1=>k_is)
  (case a2=>k_is)
  (case l2=>k_is)
  (case c2=>k_is)
  (case k2=>k_is)
  (case a3=>k_is)
  (case l3=>k_is)
  (case c3=>k_is)
  (case k3=>k_is)
  (case a4=>k_is)
  (case l4=>k_is)
  (case c4=>k_is)
  (case k4=>k_is)
  (case a5=>k_is)
  (case l5=>k_is)
  (case c5=>k_is)
  (case k5=>k_is)
  (case a6=>k_is)
  (case l6=>k_is)
  (case c6=>k_is)
  (case k6=>k_is)
  (case a7=>k_is)
  (case l7=>k_is)
  (case c7=>k_is)
  (case k7=>k_is)
  (case a8=>k_is)
  (case l8=>k_is)
  (case c8=>k_is)
  (case k8=>k_is)
  (case a9=>k_is)
  (case l9=>k_is)
  (case c9=>k_is)
  (case k9=>k_is)
  (case a10=>k_is)
  (case l10=>k_is)
  (case c10=>k_is)
  (case k10=>k_is)
  (case a11=>k_is)
  (case l11=>k_is)
  (case c11=>k_is)
  (case k11=>k_is)
  (case a12=>k_is)
  (case l12=>k_is)
  (case c12=>k_is)
  (case k12=>k_is)
  (case a13=>k_is)
  (case l13=>k_is)
  (case c13=>k_is)
  (case k13=>k_is)
  (case a14=>k_is)
  (case l14=>k_is)
  (case c14=>k_is)
  (case k14=>k_is)
  (case a15=>k_is)
  (case l15=>k_is)
  (case c15=>k_is)
  (case k15=>k_is)
  (case a16=>k_is)
  (case l16=>k_is)
  (case c16=>k_is)
  (case k16=>k_is)
  (case a17=>k_is)
  (case l17=>k_is)
  (case c17=>k_is)
  (case k17=>k_is)
  (case a18=>k_is)
  (case l18=>k_is)
  (case c18=>k_is)
  (case k18=>k_is)
  (case a19=>k_is)
  (case l19=>k_is)
  (case c19=>k_is)
  (case k19=>k_is)
  (case a20=>k_is)
  (case l20=>k_is)
  (case c20=>k_is)
  (case k20=>k_is)
  (case a21=>k_is)
  (case l21=>k_is)
  (case c21=>k_is)
  (case k21=>k_is)
  (case a22=>k_is)
  (case l22=>k_is)
  (case c22=>k_is)
  (case k22=>k_is)
  (case a23=>k_is)
  (case l23=>k_is)
  (case c23=>k_is)
  (case k23=>k_is)
  (case a24=>k_is)
  (case l24=>k_is)
  (case c24=>k_is)
  (case k24=>k_is)
  (case a25=>k_is)
  (case l25=>k_is)
  (case c25=>k_is)
  (case k25=>k_is)
  (case a26=>k_is)
  (case l26=>k_is)
  (case c26=>k_is)
  (case k26=>k_is)
  (case a27=>k_is)
  (case l27=>k_is)
  (case c27=>k_is)
  (case k27=>k_is)
  (case a28=>k_is)
  (case l28=>k_is)
  (case c28=>k_is)
  (case k28=>k_is)
  (case a29=>k_is)
  (case l29=>k_is)
  (case c29=>k_is)
  (case k29=>k_is)
  (case a30=>k_is)
  (case l30=>k_is)
  (case c30=>k_is)
  (case k30=>k_is)
  (case a31=>k_is)
  (case l31=>k_is)
  (case c31=>k_is)
  (case k31=>k_is)
  (case a32=>k_is)
  (case l32=>k_is)
  (case c32=>k_is)
  (case k32=>k_is)
  (case a33=>k_is)
  (case l33=>k_is)
  (case c33=>k_is)
  (case k33=>k_is)
  (case z1=>k_is)
  (case z2=>k_is)
  (case z3=>k_is)
  (case z4=>k_is)
  (case z5=>k_is)
  (case z6=>k_is)
  (case z7=>k_is)
  (case z8=>k_is)
  (case z9=>k_is)
  (case z10=>k_is)
  (case z11=>k_is)
  (case z12=>k_is)
  (case z13=>k_is)
  (case z14=>k_is)
  (case z15=>k_is)
  (case z16=>k_is)
  (case z17=>k_is)
  (case z18=>k_is)
  (case z19=>k_is)
  (case aA=>k_is)
  (case aB=>k_is)
  (case aC=>k_is)
  (case tT=>kernel_rfl)
