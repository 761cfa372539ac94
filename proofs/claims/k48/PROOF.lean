import PyProof.Rows.All
import Wide.All
import OpenK.AllK
import Wide.FinOn
import PyProof.EqAt
import PyProof.EqKinds
import PyProof.TupleCall
import KE.KDictSum
import KE.KRevIter
import KE.KRevSl
import KE.KDictLaws
import PyProof.StrLawsFirst
import KE.LcSums
import PyProof.EnumMake
import PyProof.TupleIter
import PyProof.StationsW
import PyProof.Rows.Own
import PyProof.NsDelKeeps
import PyProof.RulesAs
import PyProof.ExcAttrAll.ValueError
import KE.KIsAll
import PyProof.ExcBaseAll.ValueError
import PyProof.Rows.FStr
import PyProof.FString
import PyProof.Rows.StrNews
import PyProof.StrLawsTight
import PyProof.StrLawsChain
import PyProof.ExcInit
import PyProof.ExcClass3
import PyProof.InstStoreFacts
import PySem.SetTable
import PySem.SetOps
import PyProof.TupleKey
import PyProof.SetKind
import PyProof.IsRules
import KE.KSortTup
import PyProof.Rows.SortRun
import PyProof.Rows.SortShell
import PyProof.DictWalks
import PyProof.DictTruth
import PyProof.NeKinds
import PyProof.Rows.TupTab
import PyProof.Rows.SetFrom
import PyProof.SetRoads
import PyProof.AutoListH
import PyProof.DictItems
import KE.KEqDict
import PyProof.Rows.SortStr
import PySem.Challenge.RW_wornband_k48_looms_told
local macro_rules|`(⋯)=>`(by decide +kernel)
theorem Z2{c:Prop}{h:Decidable c}(n:¬c){O:Sort u}{t e:O}:ite c t e=e:=if_neg n
theorem Z1{c:Prop}{h:Decidable c}(n:c){O:Sort u}{t e:O}:ite c t e=t:=if_pos n
open Array renaming length_toList->HU,getElem?_eq_some_iff->Jo,getElem?_toList->KH,getElem?_eq_getElem->LJ,mem_toList_iff->MI,toList->Pj
open Bool renaming false_ne_true->GN,false_eq_true->HY,eq_iff_iff->HZ,not_eq_true'->K0,false_and->MH,not_false->MO,not_true->N1,and_eq_true->NS,and_false->Ot,true_and->Pf
open Classical renaming byContradiction->HX
open False renaming elim->Ik
open ForInStep renaming yield->JS
open Iff renaming rfl->JZ
open Int renaming emod_lt_of_pos->Ho,emod_nonneg->HL,toNat_natCast->IF,le_refl->O0,le_trans->Pn
open List renaming getElem?_eq_some_iff->Gx,mem_cons_of_mem->GB,mem_cons_self->GD,size_toArray->GG,length_append->GI,mem_cons->GK,mem_map->GL,length_map->GR,replicate->GS,Nodup->H9,length_cons->Hc,getElem?_map->Hd,getElem?_eq_getElem->Hj,getElem?_append_right->Hm,mem_of_getElem?->Hq,forall_mem_cons->Hr,map_cons->Hs,getElem?_append_left->Hu,getElem?_eq_none_iff->Hv,append_nil->Hw,find?_cons_of_neg->Hy,not_mem_nil->HD,mem_append_right->HE,map_map->HP,nodup_cons->HQ,replicate_succ->Ig,flatten_cons->Ij,lookup->Il,mem_append->Io,of_mem_zip->Iq,map_congr_left->Iz,length->ID,length_nil->II,mem_singleton->IJ,mem_append_left->IK,lookup_cons->IM,find?_cons_of_pos->IX,append_assoc->J8,length_set->Jb,length_singleton->Jq,getElem?_zip_eq_some->Js,drop_eq_getElem_cons->Jt,getElem?_set->Ju,filterMap_cons->JC,range->JJ,getElem?_set_self->JK,foldl_cons->JQ,find?_cons->JR,length_filter_le->JX,getElem?_set_ne->K1,length_take->Kd,nil_append->Kh,forIn_cons->Ki,length_zip->Kj,mem_filterMap->Kk,getElem?_cons_zero->Ks,getElem?_cons_succ->Kt,map_nil->Kx,take_of_length_le->Kz,forIn_nil->KA,ext_getElem?->KC,length_replicate->KG,length_drop->KP,zipIdx_cons->KR,all_eq_true->KU,drop_length->KW,any_eq_true->KZ,any_cons->L5,mem_filter->Le,zipIdx_nil->Lh,mem_range->Lq,set_cons_zero->LB,set_cons_succ->LC,mem_of_find?_eq_some->LK,pairwise_map->LV,flatMap_cons->LX,getElem_mem->M4,cons_append->M8,drop_eq_nil_of_le->Ml,length_pos_of_mem->Mn,mem_iff_getElem?->MC,dropLast_eq_take->MD,length_flatten->MV,lookup_append->Nb,contains_cons->Nd,pairwise_cons->Ng,find?_eq_none->Nh,length_range->NF,map_id->O1,find?_some->Od,map_append->Oe,foldl->Oq,drop_zero->Ov,nodup_nil->OB,take->Ql,map->Qp
open List.Pairwise renaming filter->MP,nil->Ny,imp->Qf
open List.cons renaming injEq->Mv
open Nat renaming lt_of_lt_of_le->GC,le_refl->GO,ne_of_lt->GV,lt_irrefl->Hx,le_trans->HB,le_add_right->IP,ne_of_gt->Jg,lt_succ_self->JD,le_of_lt->Ka,zero_le->Kp,lt_trans->Mg,le_succ->MJ,reduceAdd->N2,reduceSub->N3,lt_succ_of_lt->NA,le_of_not_lt->NP,add_le_add->OC,le_of_eq->Pk
open Ne renaming symm->HW
open Option renaming map_eq_some_iff->Ir,bind_eq_some_iff->IQ,isSome_iff_exists->Jx,getD_some->JF,ne_none_iff_exists'->K9,map_some->Lg,isSome_map->LP,bind_some->M5,isSome_some->N9,getD_none->NM
open Option.some renaming inj->Hl,injEq->LW
open Or renaming inr->Km,inl->Ky
open PyProof.Rows renaming boot_isinstance->Gz,boot_list->HI,boot_str->IG,callWith_type1->Jh,boot_dict->Jj,boot_abs->Jr,boot_int->JT,boot_max->JU,boot_bool->KD,sortedS->Lc,AllBare->Lm,boot_tuple->M9,subscriptTail_builtinR->Me,boot_min->MG,risingS->MN,slot_tupleiter_next->MY,IntsAre->Nv,callWith_builtin1->NL,Subscript_->Ol,boot_sorted->Pe,StrsAre->Pm,isub_int->Pw,ltCps_eq->Px,boot_all->Py,boot_any->Pz,TupTab->PU,IsTup->Qb
open PyProof.Rows.LSm renaming kept_iter->Pa
open PySem renaming wpAny_bind->Gn,Value->Gv,Shared->Gw,wpAny_pure->Gy,FuncData->GJ,Program->GQ,World->Ha,wpAny_field->He,Around->Hf,wpAny_seqItems->HA,wpAny_callSpecial?_slot->HC,wpAny_setField_rec->HF,boot_len->HH,wpAny_call_entry->HK,sizeLine_eq->HR,Spec->HV,wpAny_holding->Ip,wpAny_mono->Iw,mem_of_lookup->Iy,wpAny_newObj_type->IE,wpAny_setField->IH,wpAny_truthy_bool->IT,wpAny_isInstance->J4,wpAny_attempt->J5,wpAny_onRaise->J6,wpAny_typeNameOfWhole_keyiter->J7,DictEntry->J9,isSubtype_stop->Jn,wpAny_typeNameOf_keyiter->Jz,NameKind->JE,Scope->JH,IsZip->JI,wpAny_Call_Name_kw->JL,tupleKind_room_in1->JN,wpAny_pyIter_list->JY,wpAny_letGo->K8,wpAny_comprehension_free->Ke,wpAny_passesOwn->Kg,IsPair->Ko,wpAny_Call_method0_late->Kq,wpAny_rule->KQ,wpAny_pyIter_zip->KS,wpAny_updateSeq_pair->L9,wpAny_execs_nil->Lf,evalArgs_none->Ll,codeAny_mono->Lo,wpAny_newFunctionEnv_cells->Lw,call_meets->Ly,wpAny_letOwnedTupleGo_zip->LH,wpAny_pyIter_slot->LS,wpAny_dictEntries->LU,wpAny_standAt->LZ,wpAny_pyNext_list_item->Mc,wpAny_call->Md,Keyword->Mf,call_meetsIn->Mh,Draws->Ms,wpAny_dictEpoch->Mt,wpAny_isTrue_Compare1->Mw,codeAny_call_function->My,wpAny_isOneOf_keyiter->MF,sliceRange_one->ML,BindsTo->MR,Builtin->MS,wpAny_isSubtype_exc->MX,wpAny_handled->N0,PlainAttrs->N8,wpAny_pyIter_ascii->Na,slot_listiter_next->Nf,Within->Nk,wpAny_assign_Name->Nl,seqIndex_neg->Nw,slot_list_getitem->Nx,wpAny_pyIter_wide->Nz,wpAny_loadPart_at->ND,wpAny_execs_cons->NI,wpAny_getItem_of->NO,seqIndex_of->NX,wpAny_of_eq->NY,wpAny_throw->NZ,wpAny_specialOf->Oa,pushCells_keeps->Ob,StrKeys->Og,Model->Oh,wpAny_Name->Oi,wpAny_loadPart->Oj,typeIs_str->Om,typeIs_int->Oo,call->Ou,wpAny_newTuple->Ox,numAt_eq->Oy,wpAny_fieldsOf->OA,intBits_le_64->OQ,evalPart_none->P6,call_list_seq->P7,eval_ListComp->P8,nums_intItems->P9,Operator->PK,Result->Q2,Params->Q5,CmpOp->Qc
open PySem.Around renaming frames_deeper->MK,under->Nq
open PySem.Builtin.Dict renaming showsAll->ME,dictSlotNone->OO
open PySem.Builtin.Dict_items renaming ownsTuple->Li
open PySem.Builtin.List renaming listTooLong->Jy
open PySem.Builtin.Range renaming rangeSize->Pg
open PySem.Builtin.SmallTypes renaming nextOf->GY,ownedTupleIsFree->Hi,ownedTupleHandOut->IA
open PySem.Builtin.Str renaming occurrences->IL,strSliceIndices->IS,tooLong->PV
open PySem.Calls renaming callWith_builtin->Ji,evalArgs_plain->L7,Name_function_global->Lr,spliced_cons->Lv,spliced_nil->Nt
open PySem.Challenge renaming rw_wornband_k48_looms_told->IY,pw_wornband_k48_looms_told->Mm
open PySem.Code renaming isFrame->Nr,frames->PL
open PySem.Data renaming cell->Kb,fields->LM,seq->MM
open PySem.EntryCells renaming newEntry->MW
open PySem.EqMixed renaming eq_bool_str->OH,eq_str_bool->OI,ne_bool_str->OM,ne_str_bool->ON,eq_int_str->OU,eq_str_int->OW,ne_int_str->P0,ne_str_int->P5
open PySem.EqNone renaming eq_none_none->OE,eq_none_bool->OF,eq_bool_none->OG,ne_none_none->OJ,ne_none_bool->OK,ne_bool_none->OL,eq_none_int->OR,eq_none_str->OS,eq_int_none->OT,eq_str_none->OV,ne_none_int->OX,ne_none_str->OY,ne_int_none->OZ,ne_str_none->P4
open PySem.F renaming plainAttrs_list->Ht,slot_dict_keyiterator_next->Ib,slot_zip_next->Ih,slot_tuple_iterator_next->IW,slot_list_extend->Jc,slot_list_pop->Jw,type_list_extend->JA,args_zip_next_1->JG,entry_zip_next->JO,plainAttrs_str->JP,type_list_pop->JW,args_tuple_iterator_next_1->Kn,plainAttrs_dict->Kr,entry_tuple_iterator_next->Ku,slot_list_clear->KI,slot_dict_get->KJ,slot_str_join->KL,type_str_join->KN,args_dict_keyiterator_next_1->KY,entry_dict_keyiterator_next->La,slot_dict_itemiterator_iter->Lb,slot_dict_keyiterator_iter->Lj,excAttr_ValueError->LA,slot_dict_getitem->LG,slot_dict_clear->M1,args_dict_get_3->M3,slot_dict_items->M6,type_list_clear->M7,entry_dict_get->Mj,slot_list_append->Mz,entry_zip_new->MA,called_zip->Nc,slot_dict_iter->NR,slot_int_rmul->O9
open PySem.Heap renaming get?_push_of_some->Gu,get?_push_size->GA,lt_size->GF,SameBut->GW,get?_update_other->Hn,size_push->Hz,get?_update_self->HS,ExtBut->Jk,get?_none_of_le->L6
open PySem.Heap.DictOf renaming new->Qo
open PySem.Heap.IsSliceOf renaming new->Q3
open PySem.Heap.SameBut renaming update->Jd
open PySem.Heap.SetOf renaming objOf->Qk
open PySem.NameKind renaming free->Ie,cell->MZ
open PySem.Obj renaming mapFields->HJ,data_mapFields->Im,isFreed_of_fields->IZ,mapSeq->Lx,cls_mapFields->LQ
open PySem.P renaming str_of_int->N6
open PySem.PassesOwn renaming never->HG
open PySem.PyData renaming keyHash->Jv
open PySem.SeqAt.EqAt renaming int_str->PX,str_int->PY
open PySem.SeqAt.RcAt renaming lists_lengths->Pd,lists->Qm
open PySem.Str renaming ofString->Gq,empty->NK,length->Q4
open PySem.StrLaws renaming found_one->NC
open PySem.Txt renaming find->Lz,slice->NQ,mul->Qe
open PySem.Value renaming ref->GH,none->Hg,int->Lp,str->MQ,bool->N5,float->NV,isStrOf->OP,builtin->Pc,isInt->PB,bytes->PH,type->PZ
open PySem.Value.ref renaming inj->Pb
open PySem.W renaming Frag->Gp,findIn->GZ,kitOne->Hh,mg_of->Hk,keepIn->I9,kia_one->Ia,nsIn->Iu,emptyDict->IB,fnOf->IU,instObj->Ja,cellsFrom_some->JM,codeIn->K7,plainGet->Kc,callWith_K->Kl,InstAt->Kv,hasDictIn->Kw,OpenLaw->L8,plainGet_of->Lk,isFn->Ln,lookIn->Ls,looks_findIn->Lu,methodObj->LL,plainOver->LN,specialIn->LO,takerIn->Mp,makesIn->Mq,takesIn->Mr,methodCall_KW->Mx,codeRec_of->N7,kitx_list->Nm,kitx_dict->Np,handedIn->NJ,kitMeta->Oc,WalkO->Of,notCls->Oz
open PySem.W.Looks renaming here->Q0
open PySem.W.WData renaming int->Qj
open PySem.W.WShape renaming has->Q6
open PySem.Walks renaming list->Q7
open PySem.Within renaming cons->Qd
open Sum renaming inr->GU,inl->Jf
open Sum.inl renaming inj->PD
open Sum.inr renaming inj->PF
open True renaming intro->Jm
set_option Elab.async false
set_option linter.all false
set_option maxRecDepth 100000
namespace L2
open PySem PySem.Spec PyProof.Rows
abbrev Key:=Sum Int Str
def gI:Key->Gv->Bool
 | .inl k,v=>PB k v
 | .inr x,v=>OP x v
def vc(w:Ha):Key->Int
 | .inl k=>hashInt k
 | .inr x=>hashStr w x
theorem cu:∀{k:Key}{v:Gv},gI k v=true->(∃i t,k=Jf i/\v=Lp i t)\/(∃x t,k=GU x/\v=MQ x t)
 | .inl i,v,h=>by
  obtain⟨t,e⟩:=Value.isInt_shape (k:=i) (v:=v) h;exact .inl ⟨i,t,rfl,e⟩
 | .inr x,v,h=>by
  obtain⟨t,e⟩:=Value.isStrOf_shape (x:=x) (v:=v) h;exact .inr ⟨x,t,rfl,e⟩
theorem ij(i:Int)(t:Tok):gI (.inl i) (.int i t)=true:=by simp[gI,PB]
theorem fD(x:Str)(t:Tok):gI (.inr x) (.str x t)=true:=by simp[gI,OP]
theorem Am(a b:Int):decide ((Jf a:Key)=Jf b)=(a==b):=by
 by_cases e:a=b;·subst e;simp
 ·have h:¬(Jf a:Key)=Jf b:=λq=>e<|PD q;rw[decide_eq_false h];exact(beq_eq_false_iff_ne.mpr e).symm
theorem An(a b:Str):decide ((GU a:Key)=GU b)=decide (a=b):=by
 by_cases e:a=b;·subst e;simp
 ·have h:¬(GU a:Key)=GU b:=λq=>e<|PF q;rw[decide_eq_false h,decide_eq_false e]
theorem Ao(a:Int)(b:Str):decide ((Jf a:Key)=GU b)=false:=decide_eq_false (λq=>nomatch q)
theorem Ap(a:Str)(b:Int):decide ((GU a:Key)=Jf b)=false:=decide_eq_false (λq=>nomatch q)
def bK(prog:GQ)(w:Ha):PySem.KeyKind prog w Key where
 is:=gI
 hash:=vc w
 inj:=λv a b ha hb=>by
  rcases cu ha with⟨i,t,rfl,rfl⟩|⟨x,t,rfl,rfl⟩
  ·rcases cu hb with⟨j,u,rfl,e⟩ | ⟨y,u,rfl,e⟩
   ·injection e with e1 _;rw[e1]
   ·exact nomatch e
  ·rcases cu hb with⟨j,u,rfl,e⟩ | ⟨y,u,rfl,e⟩
   ·exact nomatch e
   ·injection e with e1 _;rw[e1]
 byValue:=λk v h=>by
  rcases cu h with⟨i,t,rfl,rfl⟩|⟨x,t,rfl,rfl⟩<;>rfl
 pyHash:=λhv h=>by
  rcases cu hv with⟨i,t,rfl,rfl⟩|⟨x,t,rfl,rfl⟩
  ·exact wpAny_pyHash_int h
  ·exact wpAny_pyHash_str h
 eqBool:=λhu hv h=>by
  rcases cu hu with⟨i,t,rfl,rfl⟩|⟨x,t,rfl,rfl⟩
  ·rcases cu hv with⟨j,u,rfl,rfl⟩ | ⟨y,u,rfl,rfl⟩
   ·rw[Am]at h;exact wpAny_eqBool_int h
   ·rw[Ao]at h;exact PX i t y u _ _ _ _ h
  ·rcases cu hv with⟨j,u,rfl,rfl⟩ | ⟨y,u,rfl,rfl⟩
   ·rw[Ap]at h;exact PY x t j u _ _ _ _ h
   ·rw[An]at h;exact wpAny_eqBool_str h
 «strs»:=λk x t v h=>by
  rcases cu h with⟨i,u,rfl,e⟩|⟨y,u,rfl,e⟩
  ·exact nomatch e
  ·injection e with e1 _;subst e1;cases v<;>rfl
theorem oM(prog:GQ)(w:Ha)(i:Int)(t:Tok):(bK prog w).is (.inl i) (.int i t)=true:=ij i t
theorem oN(prog:GQ)(w:Ha)(x:Str)(t:Tok):(bK prog w).is (.inr x) (.str x t)=true:=fD x t
inductive V where
 |non|bl (b:Bool)|int (i:Int)|str (x:Str)|byt (b:Array UInt8)|flt (b:UInt64)|ref (a:Addr)|ty (n:String)
 deriving DecidableEq
def RelV:V->Gv->Prop
 | .non,u=>u=Hg
 | .bl b,u=>u=N5 b
 | .int i,u=>∃t,u=Lp i t
 | .str x,u=>∃t,u=MQ x t
 | .byt b,u=>∃t,u=PH b t
 | .flt b,u=>∃t,u=NV b t
 | .ref a,u=>u=GH a
 | .ty n,u=>u=PZ n
abbrev Vals:List V->List Gv->Prop:=Paired RelV
theorem Vals.length{xs:List V}{us:List Gv}(r:Vals xs us):xs.length=us.length:=Paired.length r
theorem Vals.get:∀{xs:List V}{us:List Gv}{i:Nat}{x:V},Vals xs us->xs[i]? =some x->∃u,us[i]? =some u/\RelV x u
 |_,_,_,_,.nil,e=>by simp at e
 |_,_,0,_,.cons r _,e=>by simp at e;subst e;exact⟨_,rfl,r⟩
 |_,_,i+1,x, .cons _ t,e=>by
  obtain⟨u,h1,h2⟩:=Vals.get (i:=i) (x:=x) t (by simpa using e);exact⟨u,by simpa using h1,h2⟩
theorem Vals.set{x:V}{u:Gv}(r:RelV x u):∀{xs:List V}{us:List Gv}(i:Nat),Vals xs us->Vals (xs.set i x) (us.set i u)
 |_,_,_,.nil=>.nil
 |_,_,0,.cons _ t=>.cons r t
 |_,_,i+1,.cons q t=>.cons q<|Vals.set r i t
theorem Vals.append:∀{xs ys:List V}{us ws:List Gv},Vals xs us->Vals ys ws->Vals (xs++ys) (us++ws)
 |_,_,_,_,.nil,s=>s
 |_,_,_,_,.cons r t,s=>.cons r<|Vals.append t s
theorem Vals.take:∀{xs:List V}{us:List Gv}(n:Nat),Vals xs us->Vals (xs.take n) (us.take n)
 |_,_,0,_=>.nil
 |_,_,_+1,.nil=>.nil
 |_,_,n+1,.cons r t=>.cons r<|Vals.take n t
theorem Vals.drop:∀{xs:List V}{us:List Gv}(n:Nat),Vals xs us->Vals (xs.drop n) (us.drop n)
 |_,_,0,r=>r
 |_,_,_+1,.nil=>.nil
 |_,_,n+1,.cons _ t=>Vals.drop n t
def RelO:Option V->Option Gv->Prop
 |some v,some u=>RelV v u
 |none,none=>True
 |_,_=>False
def KV{κ:Type}:List (κ×V)->List (κ×Gv)->Prop:=Paired λ(p:κ×V)(q:κ×Gv)=>p.1=q.1/\RelV p.2 q.2
def kV:Key->V
 | .inl i=>.int i
 | .inr x=>.str x
inductive HO where
 |lst (xs:List V)
 |tup (xs:List V)
 |dK (kvs:List (Key×V))|dT (kvs:List (List Key×V))
 |set (S:Int->Bool) (n:Nat)
 |ins (C dx:Addr) (fs:List (Str×V))
 |own (x:Addr)
 |xd (fs:List (Str×V))
 |met (f x:Addr)
 |rng (lo hi:Int)
 |frz (o:Obj) (u:HO)
 |tbl (ps:Array Gv)
 |ext (φ:Heap->Prop)
abbrev Hp:=Addr->Option HO
def cN(H:Hp)(a:Addr)(o:HO):Hp:=λb=>if b=a then some o else H b
theorem ao{H:Hp}{a:Addr}{o:HO}:cN H a o a=some o:=by unfold cN;rw[Z1 rfl]
theorem ar{H:Hp}{a b:Addr}{o:HO}(h:b≠a):cN H a o b=H b:=by unfold cN;rw[Z2 h]
theorem rn{H:Hp}{a:Addr}{o u:HO}:cN (cN H a o) a u=cN H a u:=by
 funext b;unfold cN;split<;>rfl
theorem BS{H:Hp}{a b:Addr}{o u:HO}(h:H a=some o)(h':H b=some u)(d:o≠u):a≠b:=by
 intro e;subst e;rw[h]at h';exact d<|Hl h'
theorem cW{H:Hp}{a b:Addr}{o:HO}(h:H a=some o)(h':H b=none):a≠b:=by
 intro e;subst e;rw[h]at h';cases h'
def IsTupD(h:Heap)(a:Addr)(items:Array Gv):Prop:=∃o,h.get? a=some o/\(o.cls=.type "tuple"/\o.dict=none)/\∃n,o.data=.seq items n
theorem IsTupD.tup{h:Heap}{a:Addr}{items:Array Gv}(t:IsTupD h a items):Qb h a items:=let ⟨o,e,c,n,d⟩:=t;⟨o,e,c.1,n,d⟩
section
variable(P:GQ)(w:Ha)
def ObjOk(H:Hp)(h:Heap)(a:Addr):HO->Prop
 | .lst xs=>xs.length<=sizeLine/\∃(its:List Gv)(n:Nat),Vals xs its/\h.get? a=some {cls:=.type "list",data:=.seq its.toArray n}
 | .tup xs=>xs.length<=sizeLine/\∃its:List Gv,Vals xs its/\IsTupD h a its.toArray
 | .dK kvs=>kvs.length<=sizeLine/\(a==sysModules)=false/\∃vs,KV kvs vs/\h.DictOf (bK P w) a vs
 | .dT kvs=>kvs.length<=sizeLine/\(a == sysModules)=false/\∃xs:List (List Key×Addr×Gv),
   Paired (λ(p:List Key×V)(q:List Key×Addr×Gv)=>p.1=q.1/\H q.2.1=some (.tup<|p.1.map kV)/\RelV p.2 q.2.2) kvs xs/\
   ∃o es ep,h.get? a=some o/\o.ExactDict/\o.data=.dict es ep/\es.toList=xs.map (entryOfKey<|tupleKind<|bK P w)/\(xs.map (·.1)).Nodup
 | .set S n=>h.SetOf (intKind P w) a S n
 | .ins C dx fs=>H dx=some (.own a)/\fs.length<=1000/\dx≠a/\h.get? a=some (Ja C dx)/\
   ∃mA,h.Ns1 dx mA/\(∀f,RelO (fs.lookup f)<|mA f)/\Nk mA (fs.map (·.1))
 | .own _=>∃o,h.get? a=some o
 | .xd fs=>∃mA,h.Ns1 a mA/\∀f,RelO (fs.lookup f)<|mA f
 | .rng lo hi=>∃t u v,h.get? a=some {cls:=.type "range",data:=.fields #[.int lo t,.int hi u,.int 1 v]}
 | .frz o u=>h.get? a=some o/\ObjOk H h a u
 | .tbl ps=>h.get? a=some {cls:=.none,data:=.fields ps}
 | .met f x=>h.get? a=some (LL (.ref f)<|.ref x)
 | .ext φ=>φ h/\(∃o,h.get? a=some o)/\∀h1 h2:Heap,φ h1->(∀o,h1.get? a=some o->h2.get? a=some o)->φ h2
def HOk(H:Hp)(h:Heap):Prop:=∀a o,H a=some o->ObjOk P w H h a o
end
section
variable{P:GQ}{w:Ha}{H H':Hp}{h h':Heap}{a:Addr}{o:HO}
theorem ObjOk.lt(x:ObjOk P w H h a o):a<h.objs.size:=by
 cases o with
 |lst xs=>obtain⟨_,_,_,_,e⟩:=x;exact GF e
 |tup xs=>obtain⟨_,_,_,p⟩:=x;exact p.tup.lt
 |dK kvs=>obtain⟨_,_,_,_,o,_,_,e,_⟩:=x;exact GF e
 |dT kvs=>obtain⟨_,_,_,_,o,_,_,e,_⟩:=x;exact GF e
 |set S n=>obtain⟨o,_,_,_,e,_⟩:=x;exact GF e
 |ins C dx fs=>obtain⟨_,_,_,e,_⟩:=x;exact GF e
 |own y=>obtain⟨_,e⟩:=x;exact GF e
 |xd fs=>obtain⟨_,⟨_,_,_,e,_⟩,_⟩:=x;exact GF e
 |rng lo hi=>obtain⟨_,_,_,e⟩:=x;exact GF e
 |frz ob u=>obtain⟨e,_⟩:=x;exact GF e
 |tbl ps=>exact GF (show h.get? a=some _ from x)
 |met f y=>exact GF (show h.get? a=some _ from x)
 |ext φ=>obtain⟨_,⟨_,e⟩,_⟩:=x;exact GF e
theorem Paired.mapP{O B:Type}{F G:O->B->Prop}:∀{l₁:List O}{l₂:List B},Paired F l₁ l₂->(∀a b,F a b->G a b)->Paired G l₁ l₂
 |_,_,.nil,_=>.nil
 |_,_,.cons r t,f=>.cons (f _ _ r)<|Paired.mapP t f
theorem ObjOk.stay(x:ObjOk P w H h a o)(k:∀b u,(b=a\/H b=some (.own a))->h.get? b=some u->h'.get? b=some u)
  (ho:∀b,H b=some (.own a)->H' b=some (.own a)) (ht:∀b xs,H b=some (.tup xs)->H' b=some (.tup xs)):ObjOk P w H' h' a o:=by
 induction o with
 |lst xs=>obtain⟨z,its,n,r,e⟩:=x;exact⟨z,its,n,r,k _ _ (.inl rfl) e⟩
 |tup xs=>obtain⟨z,its,r,ob,e,c⟩:=x;exact⟨z,its,r,ob,k _ _ (.inl rfl) e,c⟩
 |dK kvs=>obtain⟨z,y,vs,r,ob,es,ep,e,c⟩:=x;exact⟨z,y,vs,r,ob,es,ep,k _ _ (.inl rfl) e,c⟩
 |dT kvs=>
  obtain⟨z,y,xs,r,ob,es,ep,e,c⟩:=x;exact⟨z,y,xs,Paired.mapP r λp q z=>⟨z.1,ht _ _ z.2.1,z.2.2⟩,ob,es,ep,k _ _ (.inl rfl) e,c⟩
 |set S n=>obtain⟨ob,es,ep,t,e,c⟩:=x;exact⟨ob,es,ep,t,k _ _ (.inl rfl) e,c⟩
 |ins C dx fs=>
  obtain⟨d,z,ne,e,mA,⟨od,es,ep,e2,c⟩,r⟩:=x;exact⟨ho _ d,z,ne,k _ _ (.inl rfl) e,mA,⟨od,es,ep,k _ _ (.inr d) e2,c⟩,r⟩
 |own y=>obtain⟨ob,e⟩:=x;exact⟨ob,k _ _ (.inl rfl) e⟩
 |xd fs=>obtain⟨mA,⟨od,es,ep,e,c⟩,r⟩:=x;exact⟨mA,⟨od,es,ep,k _ _ (.inl rfl) e,c⟩,r⟩
 |rng lo hi=>obtain⟨t,u,v,e⟩:=x;exact⟨t,u,v,k _ _ (.inl rfl) e⟩
 |frz ob u ih=>obtain⟨e,q⟩:=x;exact⟨k _ _ (.inl rfl) e,ih q⟩
 |tbl ps=>
  have e:h.get? a=some {cls:=.none,data:=.fields ps}:=x;show h'.get? a=some {cls:=.none,data:=.fields ps};exact k a _ (.inl rfl) e
 |met f y=>
  have e:h.get? a=some (LL (.ref f)<|.ref y):=x;show h'.get? a=some (LL (.ref f)<|.ref y);exact k a _ (.inl rfl) e
 |ext φ=>obtain⟨p,⟨o,e⟩,st⟩:=x;exact⟨st _ _ p λo q=>k _ _ (.inl rfl) q,⟨o,k _ _ (.inl rfl) e⟩,st⟩
theorem HOk.lt(x:HOk P w H h)(e:H a=some o):a<h.objs.size:=(x a o e).lt
theorem HOk.fresh(x:HOk P w H h)(e:h.objs.size<=a):H a=none:=by
 cases q:H a with
 |none=>rfl
 |some u=>exact absurd (GC (x.lt q) e)<|Hx _
theorem HOk.kept(x:HOk P w H h)(k:∀b u,h.get? b=some u->h'.get? b=some u):HOk P w H h':=λa o e=>
 (x a o e).stay (λb u _ q=>k b u q) (λ_ q=>q) λ_ _ q=>q
theorem HOk.laid(x:HOk P w H h)(k:∀b u,h.get? b=some u->h'.get? b=some u)(hp:h.objs.size<=a)(new:ObjOk P w (cN H a o) h' a o):HOk P w (cN H a o) h':=λb u e=>by
 have hn:=x.fresh hp;by_cases hb:b=a;·subst hb;rw[ao]at e;cases e;exact new
 ·rw[ar hb]at e;exact(x b u e).stay (λc v _ q=>k c v q) (λc q=>by rw[ar<|cW q hn];exact q) λc xs q=>by rw[ar<|cW q hn];exact q
end
def Rd(H:Hp)(a:Addr)(u:HO):Prop:=H a=some u\/∃o,H a=some (.frz o u)
theorem Rd.ok{P:GQ}{w:Ha}{H:Hp}{h:Heap}{a:Addr}{u:HO}(r:Rd H a u)(x:HOk P w H h):ObjOk P w H h a u:=by
 rcases r with r|⟨o,r⟩
 ·exact x a u r
 ·obtain⟨_,q⟩:=x a _ r;exact q
def BU:Option HO->Prop
 |some (.lst _)=>True
 |some (.dK _)=>True
 |some (.dT _)=>True
 |some (.set _ _)=>True
 |some (.ins _ _ _)=>True
 |some (.ext _)=>True
 |_=>False
section
variable{P:GQ}{w:Ha}{H:Hp}{h h':Heap}{x e:Addr}{o':HO}
theorem HOk.write(ok:HOk P w H h)(mu:BU (H x))(he:e=x\/H e=some (.own x))(k:∀b u,b≠e->h.get? b=some u->h'.get? b=some u)(heo:∃u,h'.get? e=some u)
  (new:ObjOk P w (cN H x o') h' x o'):HOk P w (cN H x o') h':=λb u q=>by
 have nown:∀c y,H c=some (.own y)->c≠x:=λc y r z=>by subst z;rw[r]at mu;exact mu
 have ntup:∀c xs,H c=some (.tup xs)->c≠x:=λc xs r z=>by subst z;rw[r]at mu;exact mu
 by_cases hb:b=x;·subst hb;rw[ao]at q;cases q;exact new
 ·rw[ar hb]at q;by_cases hbe:b=e
  ·have q':H b=some (.own x):=by
    rcases he with z|z;·exact absurd (hbe.trans z) hb
    ·rw[hbe];exact z
   rw[q]at q';cases q';obtain⟨v,hv⟩:=heo;exact⟨v,by rw[hbe];exact hv⟩
  ·refine(ok b u q).stay (λc v hc r=>k c v ?_ r) (λc r=>by rw[ar<|nown c b r];exact r) λc xs r=>by rw[ar<|ntup c xs r];exact r
   rcases hc with rfl|hc;·exact hbe
   ·rintro rfl;rcases he with z|z;·exact nown c b hc z
    ·rw[hc]at z;cases z;exact hb rfl
end
structure Un(fs ex:List Addr)(H H':Hp)(h h':Heap):Prop where
 keep:∀b o,h.get? b=some o->H b=none->b∉fs->b∉ex->h'.get? b=some o
 slot:∀b o,h.get? b=some o->H b=none->b∈fs->b∉ex->∃sl,h'.get? b=some {o with slots:=sl}
 free:∀b o,h.get? b=some o->H b=none->b∉ex->H' b=none
 there:∀b o,h.get? b=some o->b∉ex->∃o',h'.get? b=some o'
 tups:∀b xs,H b=some (.tup xs)->H' b=some (.tup xs)
 frzs:∀b o u,H b=some (.frz o u)->H' b=some (.frz o u)
 tbls:∀b ps,H b=some (.tbl ps)->∃more,H' b=some (.tbl<|ps++more)
section
variable{fs fs' ex ex':List Addr}{H H1 H2:Hp}{h h1 h2 h':Heap}{a x e:Addr}{o:HO}
theorem Un.any(u:Un fs ex H H1 h h1){b:Addr}{ob:Obj}(q:h.get? b=some ob)(n:H b=none)(hx:b∉ex):∃sl,h1.get? b=some {ob with slots:=sl}:=by
 by_cases hb:b∈fs;·exact u.slot b ob q n hb hx
 ·exact⟨ob.slots,u.keep b ob q n hb hx⟩
theorem Un.kept(k:∀b u,h.get? b=some u->h'.get? b=some u):Un fs ex H H h h':=
 ⟨λb ob q _ _ _=>k b ob q,λb ob q _ _ _=>⟨ob.slots,k b ob q⟩,λ_ _ _ n _=>n,λb ob q _=>⟨ob,k b ob q⟩,λ_ _ q=>q,λ_ _ _ q=>q,λ_ ps q=>⟨#[],by rw[q];simp⟩⟩
theorem Un.refl:Un fs ex H H h h:=Un.kept λ_ _ q=>q
theorem Un.laid(k:∀b u,h.get? b=some u->h'.get? b=some u)(hp:h.objs.size<=a)(hn:H a=none):Un fs ex H (cN H a o) h h' where
 keep:=λb u q _ _ _=>k b u q
 slot:=λb u q _ _ _=>⟨u.slots,k b u q⟩
 free:=λb u q n _=>by rw[ar<|GV<|GC (GF q) hp];exact n
 there:=λb u q _=>⟨u,k b u q⟩
 tups:=λb xs q=>by rw[ar<|cW q hn];exact q
 frzs:=λb u xs q=>by rw[ar<|cW q hn];exact q
 tbls:=λb ps q=>⟨#[],by rw[ar<|cW q hn,q];simp⟩
theorem Un.write(mu:BU (H x))(he:e=x\/H e=some (.own x))(k:∀b u,b≠e->h.get? b=some u->h'.get? b=some u)(heo:∃u,h'.get? e=some u):Un fs ex H (cN H x o) h h':=by
 have hx:∀b,H b=none->b≠x:=λb n z=>by subst z;rw[n]at mu;exact mu
 have hb:∀b,H b=none->b≠e:=λb n z=>by
  subst z;rcases he with r|r
  ·exact hx b n r
  ·rw[n]at r;cases r
 have hm:∀b u,H b=some u->¬BU (some u)->b≠x:=λb u q nm z=>by subst z;rw[q]at mu;exact nm mu
 refine⟨λb u q n _ _=>k b u (hb b n) q,λb u q n _ _=>⟨u.slots,k b u (hb b n) q⟩,λb u q n _=>by rw[ar<|hx b n];exact n,λb u q _=>?_,
  λb xs q=>by rw[ar (hm b _ q λz=>z)];exact q,λb u xs q=>by rw[ar (hm b _ q λz=>z)];exact q,λb ps q=>⟨#[],by rw[ar (hm b _ q λz=>z),q];simp⟩⟩
 by_cases hbe:b=e;·subst hbe;exact heo
 ·exact⟨u,k b u hbe q⟩
end
def ik(h:Heap)(H:Hp):List Addr:=(JJ h.objs.size).filter λa=>(H a).isSome
def nI(h:Heap)(H:Hp):Heap:=PySem.W.hideAll h<|ik h H
theorem t9(h:Heap)(H:Hp):(nI h H).objs.size=h.objs.size:=PySem.W.hideAll_size _ _
theorem vd{h:Heap}{H:Hp}{b:Addr}{o:Obj}(e:h.get? b=some o)(n:H b=none):(nI h H).get? b=some o:=
 PySem.W.hideAll_get _ e λhm=>by
  have q:(H b).isSome=true:=(Le.mp hm).2;rw[n]at q;simp at q
theorem yq{h:Heap}{H:Hp}{b:Addr}{o:Obj}(e:(nI h H).get? b=some o):h.get? b=some o/\H b=none:=by
 have e':h.get? b=some o:=PySem.W.of_hideAll (ik h H) e;refine⟨e',?_⟩;cases q:H b with
 |none=>rfl
 |some x=>
  have hm:b∈ik h H:=Le.mpr ⟨Lq.mpr<|GF e',by simp[q]⟩;have z:(nI h H).get? b=none:=PySem.W.hideAll_none (ik h H) hm;rw[z]at e;cases e
structure Mod(K:Gp)(mg:Str->Option Gv)(base:Heap):Prop where
 kin:K.In base
 glob:base.Ns mainGlobals mg
 blt:∃mb,base.Ns builtinsNs mb/\∀x:Str,x≠"__name__"->mb x=bootBuiltins x
 nolimit:base.NoLimit
structure Cx where
 prog:GQ
 w:Ha
 K:Gp
 mg:Str->Option Gv
 base:Heap
 A:Hf
 N:List Str
 s₀:Gw
 H₀:Hp
 env:Env
 outer:List Env
 stack:List Env
 ex:List Addr
 fn:Str->Bool
 calm:Bool
 pn:List (Addr×Obj)
 xe:Gv->Gw->Prop
def frs(l:List Env):List Addr:=l.filterMap (·.frame)
abbrev Cx.fs(X:Cx):List Addr:=frs X.outer
def Vis(sc:JH)(x:Str):Prop:=sc.names.lookup x=some .local\/sc.names.lookup x=some .cell\/sc.names.lookup x=some .free
def Aq(sc:JH)(x:Str):Prop:=sc.names.lookup x=some .local\/sc.names.lookup x=some .cell
def Look(env:Env)(h:Heap)(m:Str->Option Gv)(x:Str)(u:Gv):Prop:=
 (env.kindOf x=some .local/\m x=some u)\/((env.kindOf x=some .cell\/env.kindOf x=some .free)/\∃c,env.cells.lookup x=some c/\h.IsCell c (some u))
structure Cx.Ok(X:Cx):Prop where
 mod:Mod X.K X.mg X.base
 kind:X.env.scope.kind=.function
 glob:X.env.globals=mainGlobals
 blt:X.env.builtins=builtinsNs
 above:X.s₀.heap.objs.size<=X.env.locals
 inj:∀x y c,X.env.cells.lookup x=some c->X.env.cells.lookup y=some c->x=y
 has:∀x,(X.env.kindOf x=some .cell\/X.env.kindOf x=some .free)->∃c,X.env.cells.lookup x=some c
 cab:∀x c,X.fn x=true->X.env.cells.lookup x=some c->X.s₀.heap.objs.size<=c
 hd:X.calm=true->X.A.handled=none
 frames:X.A.frames=some X.stack
 stk:X.stack=X.outer\/(X.stack=X.env::X.outer/\X.env.frame=some X.env.locals)
 exf:∀b∈X.ex,b≠X.env.locals/\∀x c,X.env.cells.lookup x=some c->c≠b
 bs:∀b o,X.base.get? b=some o->X.s₀.heap.get? b=some o/\X.H₀ b=none
 bsz:X.base.objs.size<=X.s₀.heap.objs.size
 noex:∀b o,X.base.get? b=some o->b∉X.ex
 exfs:∀b∈X.ex,b∉X.fs
 funs:X.s₀.heap.FunFrames X.base X.outer
 frf:∀b∈X.fs,X.H₀ b=none
structure Inv(X:Cx)(Z_:List (Addr×Obj))(Y:List (Option V))(H:Hp)(s:Gw):Prop where
 ok:X.Ok
 os:s.os=X.s₀.os
 bare:Lm s.gens
 base:Un X.fs X.ex X.H₀ H X.s₀.heap s.heap
 loc:∃m,s.heap.Ns X.env.locals m/\∀(i:Nat)(x:Str)(v:V),X.N[i]? =some x->Y[i]? =some (some v)->Vis X.env.scope x->∃u,RelV v u/\Look X.env s.heap m x u
 cell:∀x c,X.env.cells.lookup x=some c->∃v,s.heap.IsCell c v
 free:H X.env.locals=none
 freeC:∀x c,X.env.cells.lookup x=some c->H c=none
 pin:∀p∈X.pn++Z_,s.heap.get? p.1=some p.2/\H p.1=none/\p.1≠X.env.locals/\p.1∉X.fs/\∀v,p.2.data≠.cell v
 hok:HOk X.prog X.w H s.heap
 len:Y.length=X.N.length
section
variable{X:Cx}{Z_:List (Addr×Obj)}{Y:List (Option V)}{H H':Hp}{s:Gw}{h':Heap}
theorem Cx.Ok.nofr(ok:X.Ok){b:Addr}{o:Obj}(e:X.base.get? b=some o):b∉X.fs:=λhb=>by
 have:=(ok.funs.mem hb).1;rw[e]at this;cases this
theorem Inv.bs(I:Inv X Z_ Y H s):∀b o,X.base.get? b=some o->s.heap.get? b=some o/\H b=none:=λb o e=>
 ⟨I.base.keep b o (I.ok.bs b o e).1 (I.ok.bs b o e).2 (I.ok.nofr e) (I.ok.noex b o e),I.base.free b o (I.ok.bs b o e).1 (I.ok.bs b o e).2 (I.ok.noex b o e)⟩
theorem Inv.bk(I:Inv X Z_ Y H s):∀b o,X.base.get? b=some o->s.heap.get? b=some o:=λb o e=>(I.bs b o e).1
theorem Inv.mod(I:Inv X Z_ Y H s):Mod X.K X.mg X.base:=I.ok.mod
theorem Inv.kIn(I:Inv X Z_ Y H s):X.K.In s.heap:=I.ok.mod.kin.keeps I.bk
theorem Inv.lt(I:Inv X Z_ Y H s):X.env.locals<s.heap.objs.size:=let ⟨_,hn,_⟩:=I.loc;hn.lt
theorem Inv.sz(I:Inv X Z_ Y H s):X.s₀.heap.objs.size<=s.heap.objs.size:=HB I.ok.above<|Ka I.lt
theorem Inv.nofs(I:Inv X Z_ Y H s){a:Addr}(h:s.heap.objs.size<=a):a∉X.fs:=λhb=>by
 obtain⟨_,o,ho,_⟩:=I.ok.funs.mem hb;exact absurd (GC (GF ho)<|HB I.sz h)<|Hx _
theorem Inv.cne(I:Inv X Z_ Y H s):∀x c,X.env.cells.lookup x=some c->c≠X.env.locals:=λx c e z=>by
 obtain⟨v,o,ho,hd⟩:=I.cell x c e;obtain⟨m,⟨o',es,ep,ho',hd',_⟩,_⟩:=I.loc;rw[z,ho']at ho;cases ho;rw[hd']at hd;cases hd
theorem Inv.funs(I:Inv X Z_ Y H s):s.heap.FunFrames X.base X.outer:=by
 have all:∀(l:List Env),(∀b∈frs l,b∈X.fs)->X.s₀.heap.FunFrames X.base l->s.heap.FunFrames X.base l:=by
  intro l
  induction l with
  |nil=>intro _ _;trivial
  |cons env r ih=>
   intro hs hl;obtain⟨hk,⟨L,o,hf,hn,ho,hd⟩,hr⟩:=hl;have hL:L∈X.fs:=hs L (by unfold frs;rw[JC,hf];exact GD);obtain⟨sl,e⟩:=I.base.slot L o ho (I.ok.frf L hL) hL λz=>I.ok.exfs L z hL;exact⟨hk,⟨L,_,hf,hn,e,hd⟩,ih (λb hb=>hs b (by unfold frs;rw[JC,hf];exact GB _ hb)) hr⟩
 exact all X.outer (λ_ hb=>hb) I.ok.funs
theorem Inv.stack(I:Inv X Z_ Y H s):s.heap.FunFrames X.base X.stack:=by
 rcases I.ok.stk with e|⟨e,hf⟩
 ·rw[e];exact I.funs
 ·rw[e];obtain⟨m,hn,_⟩:=I.loc;refine .cons (by rw[I.ok.kind];decide) hf hn ?_ I.funs;exact L6<|HB I.ok.bsz I.ok.above
theorem Inv.stkSub(I:Inv X Z_ Y H s):∀b∈frs X.stack,b∈X.env.locals::X.fs:=λb hb=>by
 rcases I.ok.stk with e|⟨e,hf⟩
 ·rw[e]at hb;exact GB _ hb
 ·rw[e]at hb;unfold frs at hb;rw[JC,hf]at hb;exact hb
theorem Inv.stkFree(I:Inv X Z_ Y H s):∀b∈frs X.stack,H b=none:=λb hb=>by
 rcases GK.mp (I.stkSub b hb)with e|hb;·rw[e];exact I.free
 ·obtain⟨_,o,ho,_⟩:=I.ok.funs.mem hb;exact I.base.free b o ho (I.ok.frf b hb) λz=>I.ok.exfs b z hb
theorem Inv.step{g':Array GenState}{t':Nat}{d':Drawn}{ch:List Addr}(I:Inv X Z_ Y H s)
  (hch:∀b∈ch,(b∈X.ex\/X.s₀.heap.objs.size<=b)/\b≠X.env.locals/\(∀x c,X.env.cells.lookup x=some c->c≠b)/\∀p∈X.pn++Z_,p.1≠b)
  (keep:∀b o,b≠X.env.locals->b∉X.fs->b∉ch->s.heap.get? b=some o->H b=none->h'.get? b=some o)
  (slot:∀b o,b≠X.env.locals->b∈X.fs->b∉ch->s.heap.get? b=some o->H b=none->∃sl,h'.get? b=some {o with slots:=sl}) (free:∀b o,b∉ch->s.heap.get? b=some o->H b=none->H' b=none)
  (there:∀b o,b∉ch->s.heap.get? b=some o->∃o',h'.get? b=some o')
  (tups:∀b xs,H b=some (.tup xs)->H' b=some (.tup xs)) (frzs:∀b o u,H b=some (.frz o u)->H' b=some (.frz o u)) (tbls:∀b ps,H b=some (.tbl ps)->∃more,H' b=some (.tbl<|ps++more))
  (ns:∀m,s.heap.Ns X.env.locals m->h'.Ns X.env.locals m) (hok:HOk X.prog X.w H' h') (hg:Lm g'):
  Inv X Z_ Y H' {s with heap:=h',gens:=g',drawn:=d',toks:=t'}:=by
 have neL:∀b o,X.s₀.heap.get? b=some o->b≠X.env.locals:=λb o e=>GV<|GC (GF e) I.ok.above;have neC:∀b o,X.s₀.heap.get? b=some o->b∉X.ex->b∉ch:=λb o e hx hb=>by
  rcases (hch b hb).1 with z|z;·exact hx z
  ·exact absurd (GC (GF e) z)<|Hx _
 have cellK:∀x c,X.env.cells.lookup x=some c->∀v,s.heap.IsCell c v->h'.IsCell c v:=λx c e v⟨o,ho,hd⟩=>by
  have nch:c∉ch:=λz=>(hch c z).2.2.1 x c e rfl;by_cases hc:c∈X.fs
  ·obtain⟨sl,q⟩:=slot c o (I.cne x c e) hc nch ho<|I.freeC x c e;exact⟨_,q,hd⟩
  ·exact⟨o,keep c o (I.cne x c e) hc nch ho<|I.freeC x c e,hd⟩
 refine⟨I.ok,I.os,hg,⟨λb o e n hb hx=>?_,λb o e n hb hx=>?_,λb o e n hx=>?_,λb o e hx=>?_,λb xs e=>tups b xs<|I.base.tups b xs e,λb o xs e=>frzs b o xs<|I.base.frzs b o xs e,λb ps e=>?_⟩,?_,λx c e=>?_,?_,λx c e=>?_,λp hp=>?_,hok,I.len⟩;·exact keep b o (neL b o e) hb (neC b o e hx) (I.base.keep b o e n hb hx)<|I.base.free b o e n hx
 ·obtain⟨sl,e1⟩:=I.base.slot b o e n hb hx;obtain⟨sl',e2⟩:=slot b _ (neL b o e) hb (neC b o e hx) e1<|I.base.free b o e n hx;exact⟨sl',e2⟩
 ·obtain⟨o',e1⟩:=I.base.there b o e hx;exact free b o' (neC b o e hx) e1<|I.base.free b o e n hx
 ·obtain⟨o',e1⟩:=I.base.there b o e hx;exact there b o' (neC b o e hx) e1
 ·obtain⟨m1,e1⟩:=I.base.tbls b ps e;obtain⟨m2,e2⟩:=tbls b _ e1;exact⟨m1++m2,by rw[e2,Array.append_assoc]⟩
 ·obtain⟨m,hn,hl⟩:=I.loc;refine⟨m,ns m hn,λi x v e1 e2 e3=>?_⟩;obtain⟨u,r,l⟩:=hl i x v e1 e2 e3;refine⟨u,r,?_⟩;rcases l with l|⟨k,c,e,z⟩
  ·exact .inl l
  ·exact .inr ⟨k,c,e,cellK x c e _ z⟩
 ·obtain⟨v,z⟩:=I.cell x c e;exact⟨v,cellK x c e v z⟩
 ·obtain⟨m,⟨o,_,_,ho,_⟩,_⟩:=I.loc;exact free _ o (λz=>(hch _ z).2.1 rfl) ho I.free
 ·obtain⟨v,o,ho,hd⟩:=I.cell x c e;exact free c o (λz=>(hch c z).2.2.1 x c e rfl) ho<|I.freeC x c e
 ·obtain⟨e,n,ne,nf,d⟩:=I.pin p hp;have nch:p.1∉ch:=λz=>(hch p.1 z).2.2.2 p hp rfl;exact⟨keep p.1 p.2 ne nf nch e n,free p.1 p.2 nch e n,ne,nf,d⟩
theorem Inv.un{t':Nat}(I:Inv X Z_ Y H s)(u:Un X.fs [] H H' s.heap h')(hok:HOk X.prog X.w H' h'):Inv X Z_ Y H' {s with heap:=h',toks:=t'}:=by
 obtain⟨m,⟨o,es,ep,ho,r⟩,_⟩:=id I.loc;obtain⟨sl,hL⟩:=u.any ho I.free (by simp);exact I.step (g':=s.gens) (d':=s.drawn) (ch:=[]) (λ_ z=>nomatch z) (λb o _ hb _ e n=>u.keep b o e n hb (by simp)) (λb o _ hb _ e n=>u.slot b o e n hb (by simp)) (λb o _ e n=>u.free b o e n (by simp)) (λb o _ e=>u.there b o e (by simp)) u.tups u.frzs u.tbls (λm' hm=>by
  obtain⟨o',es',ep',ho',r'⟩:=hm;rw[ho]at ho';cases ho';exact⟨_,es',ep',hL,r'⟩) hok I.bare
theorem Inv.call{g':Array GenState}{t':Nat}{d':Drawn}{ch:List Addr}(I:Inv X Z_ Y H s)(u:Un (frs X.stack) ch H H' s.heap h')(hok:HOk X.prog X.w H' h')(hg:Lm g')
  (hch:∀b∈ch,(b∈X.ex\/X.s₀.heap.objs.size<=b)/\b≠X.env.locals/\(∀x c,X.env.cells.lookup x=some c->c≠b)/\∀p∈X.pn++Z_,p.1≠b):
  Inv X Z_ Y H' {s with heap:=h',gens:=g',drawn:=d',toks:=t'}:=by
 obtain⟨m,⟨o,es,ep,ho,r⟩,_⟩:=id I.loc;obtain⟨sl,hL⟩:=u.any ho I.free λz=>(hch _ z).2.1 rfl;exact I.step (ch:=ch) hch (λb o hL hb hc e n=>u.keep b o e n (λz=>(GK.mp<|I.stkSub b z).elim hL hb) hc) (λb o _ _ hc e n=>u.any e n hc) (λb o hc e n=>u.free b o e n hc) (λb o hc e=>u.there b o e hc) u.tups u.frzs u.tbls (λm' hm=>by
  obtain⟨o',es',ep',ho',r'⟩:=hm;rw[ho]at ho';cases ho';exact⟨_,es',ep',hL,r'⟩) hok hg
theorem Inv.turned{t':Nat}{it:Addr}(I:Inv X Z_ Y H s)(k:∀b o,b≠it->s.heap.get? b=some o->h'.get? b=some o)(hn:H it=none)(hL:it≠X.env.locals)
  (h1:it∈X.ex\/X.s₀.heap.objs.size<=it) (h2:∀x c,X.env.cells.lookup x=some c->c≠it) (h3:∀p∈X.pn++Z_,p.1≠it):Inv X Z_ Y H {s with heap:=h',toks:=t'}:=by
 have nit:∀b u,H b=some u->b≠it:=λb u e z=>by rw[z,hn]at e;cases e
 refine I.step (g':=s.gens) (d':=s.drawn) (ch:=[it]) (λb hb=>?_) (λb o _ _ hc e _=>k b o (λz=>hc (by simp[z])) e) (λb o _ _ hc e _=>⟨o.slots,k b o (λz=>hc (by simp[z])) e⟩) (λ_ _ _ _ n=>n)
  (λb o hc e=>⟨o,k b o (λz=>hc (by simp[z])) e⟩) (λ_ _ e=>e) (λ_ _ _ e=>e) (λb ps e=>⟨#[],by rw[e];simp⟩) (λm hm=>?_) (λb u e=>?_) I.bare
 ·have e:b=it:=by simpa using hb
  subst e;exact⟨h1,hL,h2,h3⟩
 ·obtain⟨o,es,ep,ho,r⟩:=hm;exact⟨o,es,ep,k _ o (HW hL) ho,r⟩
 ·refine(I.hok b u e).stay (λc v hc q=>k c v ?_ q) (λ_ q=>q) λ_ _ q=>q;rcases hc with z|z
  ·rw[z];exact nit b u e
  ·exact nit c _ z
theorem Inv.tok(I:Inv X Z_ Y H s)(t:Nat):Inv X Z_ Y H {s with toks:=t}:=I.un (h':=s.heap) (t':=t) Un.refl I.hok
theorem Inv.kept{t':Nat}(I:Inv X Z_ Y H s)(k:∀b u,s.heap.get? b=some u->h'.get? b=some u):Inv X Z_ Y H {s with heap:=h',toks:=t'}:=I.un (Un.kept k)<|I.hok.kept k
theorem Inv.laid{a:Addr}{o:HO}{t':Nat}(I:Inv X Z_ Y H s)(k:∀b u,s.heap.get? b=some u->h'.get? b=some u)(hp:s.heap.objs.size<=a)(new:ObjOk X.prog X.w (cN H a o) h' a o):
  Inv X Z_ Y (cN H a o) {s with heap:=h',toks:=t'}:=I.un (Un.laid k hp<|I.hok.fresh hp)<|I.hok.laid k hp new
theorem Inv.write{x e:Addr}{o:HO}{t':Nat}(I:Inv X Z_ Y H s)(mu:BU (H x))(he:e=x\/H e=some (.own x))(k:∀b u,b≠e->s.heap.get? b=some u->h'.get? b=some u)(heo:∃u,h'.get? e=some u)
  (new:ObjOk X.prog X.w (cN H x o) h' x o):Inv X Z_ Y (cN H x o) {s with heap:=h',toks:=t'}:=I.un (Un.write mu he k heo)<|I.hok.write mu he k heo new
theorem Inv.weak{σ':List (Option V)}(I:Inv X Z_ Y H s)(hl:σ'.length=Y.length)(w:∀(i:Nat)v,σ'[i]? =some (some v)->Y[i]? =some (some v)):Inv X Z_ σ' H s:=
 ⟨I.ok,I.os,I.bare,I.base,let ⟨m,hn,hl'⟩:=I.loc;⟨m,hn,λi x v e1 e2 e3=>hl' i x v e1 (w i v e2) e3⟩,I.cell,I.free,I.freeC,I.pin,I.hok,hl.trans I.len⟩
theorem Inv.pins_of{pins':List (Addr×Obj)}(I:Inv X Z_ Y H s)(h:∀p∈pins',s.heap.get? p.1=some p.2/\H p.1=none/\p.1≠X.env.locals/\p.1∉X.fs/\∀v,p.2.data≠.cell v):Inv X pins' Y H s:=
 ⟨I.ok,I.os,I.bare,I.base,I.loc,I.cell,I.free,I.freeC,λp hp=>(Io.mp hp).elim (λz=>I.pin p<|IK _ z) (h p),I.hok,I.len⟩
theorem kY{N:List Str}(hN:N.Nodup){i j:Nat}{x:Str}(a:N[i]? =some x)(b:N[j]? =some x):i=j:=by
 obtain⟨h1,e1⟩:=Gx.mp a;obtain⟨h2,e2⟩:=Gx.mp b;exact(List.getElem_inj hN).mp (e1.trans e2.symm)
theorem mI{M:Oh}{A:Hf}{E:Gv->Gw->Prop}{i:Nat}{x:Str}{v:V}{u:Gv}{Q:Unit->Gw->Prop}(I:Inv X Z_ Y H s)(hN:X.N.Nodup)(hi:X.N[i]? =some x)(hx:Aq X.env.scope x)(r:RelV v u)
  (h:∀s',Inv X Z_ (Y.set i<|some v) H s'->(∃a,GW a s.heap s'.heap/\(a=X.env.locals\/X.env.cells.lookup x=some a))->Q () s') (hf:X.fn x=true\/X.env.scope.names.lookup x=some .local:=by first|exact .inl rfl|exact .inr rfl|assumption):wpAny M A (storeName X.env x u) Q E s:=by
 obtain⟨m,hn,hl⟩:=id I.loc;have hcls:(X.env.scope.kind== .class||(X.env.scope.kind== .module&&X.env.locals != X.env.globals))=false:=by rw[I.ok.kind];rfl
 have hiσ:i<Y.length:=by rw[I.len];exact(Gx.mp hi).1
 have cne:=I.cne;have tracked:∀{a:Addr}{h':Heap},(∃o,s.heap.get? a=some o/\H a=none)->GW a s.heap h'->HOk X.prog X.w H h':=λ{a h'}ha hs b ob e=>by
  obtain⟨_,_,hfree⟩:=ha;refine(I.hok b ob e).stay (λc w' hc q=>(hs.2 c ?_).trans q) (λ_ q=>q) λ_ _ q=>q;rintro rfl;rcases hc with rfl|hc
  ·rw[hfree]at e;cases e
  ·rw[hfree]at hc;cases hc
 rcases hx with hk|hk
 ·refine wpAny_storeName_local hk hn (λh' hn' hs=>?_) hcls;obtain⟨oL,_,_,hoL,_⟩:=id hn;refine h _ ⟨I.ok,I.os,I.bare,⟨λb o e n hb hx=>?_,λb o e n hb hx=>?_,I.base.free,λb o e hx=>?_,I.base.tups,I.base.frzs,I.base.tbls⟩,⟨_,hn',λj y v' e1 e2 e3=>?_⟩,λy c e=>?_,I.free,I.freeC,λp hp=>?_,tracked ⟨oL,hoL,I.free⟩ hs,by simpa using I.len⟩ ⟨_,hs,.inl rfl⟩;·exact(hs.2 b<|GV<|GC (GF e) I.ok.above).trans (I.base.keep b o e n hb hx)
  ·obtain⟨sl,e1⟩:=I.base.slot b o e n hb hx;exact⟨sl,(hs.2 b<|GV<|GC (GF e) I.ok.above).trans e1⟩
  ·obtain⟨o',e1⟩:=I.base.there b o e hx;exact⟨o',(hs.2 b<|GV<|GC (GF e) I.ok.above).trans e1⟩
  ·by_cases hj:j=i
   ·subst hj;rw[hi]at e1;cases e1;rw[JK hiσ]at e2;cases e2;exact⟨u,r,.inl ⟨hk,by simp⟩⟩
   ·rw[K1<|HW hj]at e2;obtain⟨u',r',q⟩:=hl j y v' e1 e2 e3;refine⟨u',r',?_⟩;rcases q with⟨k,e⟩|⟨k,c,e,z⟩
    ·refine .inl ⟨k,?_⟩;have:y≠x:=λe=>hj<|kY hN e1<|e▸hi;simp[this,e]
    ·exact .inr ⟨k,c,e,z.sameBut hs<|cne y c e⟩
  ·obtain⟨w',z⟩:=I.cell y c e;exact⟨w',z.sameBut hs<|cne y c e⟩
  ·obtain⟨e,n,ne,nf,d⟩:=I.pin p hp;exact⟨(hs.2 p.1 ne).trans e,n,ne,nf,d⟩
 ·have hfn:X.fn x=true:=by
   rcases hf with z|z;·exact z
   ·rw[z]at hk;cases hk
  obtain⟨c,hc⟩:=I.ok.has x<|.inl hk;obtain⟨w',z⟩:=I.cell x c hc;refine wpAny_storeName_cell I.ok.kind hk hc z<|λh' hc' hs=>?_;obtain⟨oc,hoc,hocd⟩:=id z;refine h {s with heap:=h'} ⟨I.ok,I.os,I.bare,⟨λb o e n hb hx=>?_,λb o e n hb hx=>?_,I.base.free,λb o e hx=>?_,I.base.tups,I.base.frzs,I.base.tbls⟩,⟨m,hn.sameBut hs<|HW<|cne x c hc,λj y v' e1 e2 e3=>?_⟩,λy c' e=>?_,I.free,I.freeC,λp hp=>?_,tracked ⟨oc,hoc,I.freeC x c hc⟩ hs,by simpa using I.len⟩ ⟨c,hs,.inr hc⟩;·exact(hs.2 b<|GV<|GC (GF e)<|I.ok.cab x c hfn hc).trans (I.base.keep b o e n hb hx)
  ·obtain⟨sl,e1⟩:=I.base.slot b o e n hb hx;exact⟨sl,(hs.2 b<|GV<|GC (GF e)<|I.ok.cab x c hfn hc).trans e1⟩
  ·obtain⟨o',e1⟩:=I.base.there b o e hx;exact⟨o',(hs.2 b<|GV<|GC (GF e)<|I.ok.cab x c hfn hc).trans e1⟩
  ·by_cases hj:j=i
   ·subst hj;rw[hi]at e1;cases e1;rw[JK hiσ]at e2;cases e2;exact⟨u,r,.inr ⟨.inl hk,c,hc,hc'⟩⟩
   ·rw[K1<|HW hj]at e2;obtain⟨u',r',q⟩:=hl j y v' e1 e2 e3;refine⟨u',r',?_⟩;rcases q with q|⟨k,c',e,z'⟩
    ·exact .inl q
    ·refine .inr ⟨k,c',e,z'.sameBut hs ?_⟩;rintro rfl;exact hj<|kY hN e1<|I.ok.inj _ _ _ e hc▸hi
  ·by_cases hcc:c'=c;·subst hcc;exact⟨_,hc'⟩
   ·obtain⟨w2,z2⟩:=I.cell y c' e;exact⟨w2,z2.sameBut hs hcc⟩
  ·obtain⟨e,n,ne,nf,d⟩:=I.pin p hp;refine⟨(hs.2 p.1 ?_).trans e,n,ne,nf,d⟩;intro q;rw[q,hoc]at e;have q':oc=p.2:=Hl e;exact d w' (by rw[<-q'];exact hocd)
theorem kZ{M:Oh}{A:Hf}{E:Gv->Gw->Prop}{i:Nat}{x:Str}{v:V}{u:Gv}{Q:Unit->Gw->Prop}(I:Inv X Z_ Y H s)(hN:X.N.Nodup)(hi:X.N[i]? =some x)(hx:Aq X.env.scope x)(r:RelV v u)
  (h:∀s',Inv X Z_ (Y.set i<|some v) H s'->Q () s') (hf:X.fn x=true\/X.env.scope.names.lookup x=some .local:=by first|exact .inl rfl|exact .inr rfl|assumption):wpAny M A (storeName X.env x u) Q E s:=
 mI I hN hi hx r (λs' I' _=>h s' I') hf
theorem Inv.call'{s':Gw}{ch:List Addr}(I:Inv X Z_ Y H s)(ho:s'.os=s.os)(u:Un (frs X.stack) ch H H' s.heap s'.heap)(hok:HOk X.prog X.w H' s'.heap)(hg:Lm s'.gens)
  (hch:∀b∈ch,(b∈X.ex\/X.s₀.heap.objs.size<=b)/\b≠X.env.locals/\(∀x c,X.env.cells.lookup x=some c->c≠b)/\∀p∈X.pn++Z_,p.1≠b):Inv X Z_ Y H' s':=by
 obtain⟨h',g',d',t',o'⟩:=s';have e:o'=s.os:=ho;subst e;exact I.call (g':=g') (t':=t') (d':=d') u hok hg hch
end
abbrev XK:=Gv->Option Addr->Hp->Prop
abbrev St:=List<|Option V
abbrev VK:=V->Hp->Prop
abbrev TE:=St->Hp->VK->Prop
abbrev TT:=St->Hp->(Bool->Hp->Prop)->Prop
abbrev TA:=St->Hp->(List V->Hp->Prop)->Prop
structure Ends where
 nx:St->Hp->Prop
 rt:VK
 bk:St->Hp->Prop:=λ_ _=>False
 ct:St->Hp->Prop:=λ_ _=>False
abbrev TS:=Ends->St->Hp->Prop
def EP(X:Cx)(Z_:List (Addr×Obj))(Y:St)(Q:VK)(u:Gv)(s':Gw):Prop:=∃v H',Inv X Z_ Y H' s'/\RelV v u/\Q v H'
def TP(X:Cx)(Z_:List (Addr×Obj))(Y:St)(Q:Bool->Hp->Prop)(b:Bool)(s':Gw):Prop:=∃H',Inv X Z_ Y H' s'/\Q b H'
def AP(X:Cx)(Z_:List (Addr×Obj))(Y:St)(Q:List V->Hp->Prop)(us:List Gv)(s':Gw):Prop:=∃vs H',Inv X Z_ Y H' s'/\Vals vs us/\Q vs H'
def SP(X:Cx)(Z_:List (Addr×Obj))(D:Ends)(f:Flow)(s':Gw):Prop:=
 match f with
 | .next=>∃σ' H',Inv X Z_ σ' H' s'/\D.nx σ' H'
 | .brk=>∃σ' H',Inv X Z_ σ' H' s'/\D.bk σ' H'
 | .cont=>∃σ' H',Inv X Z_ σ' H' s'/\D.ct σ' H'
 | .ret u=>∃v σ' H',Inv X Z_ σ' H' s'/\RelV v u/\D.rt v H'
def PE(X:Cx)(e:Expr)(t:TE):Prop:=
 ∀(Z_:List (Addr×Obj))(s:Gw)(Y:St)(H:Hp)(Q:VK),Inv X Z_ Y H s->t Y H Q->wpAny (model X.prog X.w) X.A (eval e X.env) (EP X Z_ Y Q) X.xe s
def PT(X:Cx)(e:Expr)(t:TT):Prop:=
 ∀(Z_:List (Addr×Obj))(s:Gw)(Y:St)(H:Hp)(Q:Bool->Hp->Prop),Inv X Z_ Y H s->t Y H Q->wpAny (model X.prog X.w) X.A (isTrue e X.env<|eval e X.env) (TP X Z_ Y Q) X.xe s
def PW(X:Cx)(e:Expr)(t:TT):Prop:=
 ∀(whole:Sem Gv)(Z_:List (Addr×Obj))(s:Gw)(Y:St)(H:Hp)(Q:Bool->Hp->Prop),Inv X Z_ Y H s->t Y H Q->wpAny (model X.prog X.w) X.A (isTrue e X.env whole) (TP X Z_ Y Q) X.xe s
theorem PW.pt{X:Cx}{e:Expr}{t:TT}(h:PW X e t):PT X e t:=h _
def PA(X:Cx)(es:List Expr)(t:TA):Prop:=
 ∀(pos:Pos)(Z_:List (Addr×Obj))(s:Gw)(Y:St)(H:Hp)(Q:List V->Hp->Prop),Inv X Z_ Y H s->t Y H Q->wpAny (model X.prog X.w) X.A (spliced<|backTo pos<|starEach es X.env) (AP X Z_ Y Q) X.xe s
def PS(X:Cx)(st:Stmt)(t:TS):Prop:=
 ∀(Z_:List (Addr×Obj))(s:Gw)(Y:St)(H:Hp)(D:Ends),Inv X Z_ Y H s->t D Y H->wpAny (model X.prog X.w) X.A (exec st X.env) (SP X Z_ D) X.xe s
def PSs(X:Cx)(st:List Stmt)(t:TS):Prop:=
 ∀(Z_:List (Addr×Obj))(s:Gw)(Y:St)(H:Hp)(D:Ends),Inv X Z_ Y H s->t D Y H->wpAny (model X.prog X.w) X.A (execs st X.env) (SP X Z_ D) X.xe s
theorem cG{O:Type}{t:Sem O}{Q Q':O->Gw->Prop}{M:Oh}{A:Hf}{E:Gv->Gw->Prop}{s:Gw}(h:wpAny M A t Q E s)(hQ:∀a s,Q a s->Q' a s):wpAny M A t Q' E s:=Iw h hQ λ_ _ x=>x
section
variable{X:Cx}
def bC(i:Nat):TE:=λY H Q=>∃v,Y[i]? =some (some v)/\Q v H
def tC(v:V):TE:=λ_ H Q=>Q v H
theorem Ar{i:Nat}{x:Str}{pos:Pos}(hN:X.N[i]? =some x)(hv:Vis X.env.scope x)(hd:(x==("__debug__" :Str))=false:=by decide)(hcd:(x==("__classdict__" :Str))=false:=by decide):PE X (.Name x pos) (bC i):=by
 intro Z_ s Y H Q I h;obtain⟨v,e,h⟩:=h;obtain⟨m,hn,hl⟩:=I.loc;obtain⟨u,r,l⟩:=hl i x v hN e hv;have fin:EP X Z_ Y Q u s:=⟨v,H,I,r,h⟩
 rcases l with⟨hk,hm⟩|⟨hk,c,hc,hcell⟩
 ·exact Oi (wpAny_loadName_local I.ok.kind hk hn hm fin) hd
 ·rcases hk with hk | hk;·exact Oi (wpAny_loadName_cell I.ok.kind hk hc hcell fin) hd
  ·exact Oi (wpAny_loadName_free I.ok.kind hk hc hcell fin hcd) hd
theorem a8{i j pos}:PE X (.Constant (.int i) j pos) (tC<|.int i):=λ_ _ _ H _ I h=>wpAny_Constant_int ⟨.int i,H,I.tok _,⟨_,rfl⟩,h⟩
theorem fw{b j pos}:PE X (.Constant (.bool b) j pos) (tC<|.bl b):=λ_ _ _ H _ I h=>Constant_bool ⟨.bl b,H,I,rfl,h⟩
theorem jD{j pos}:PE X (.Constant .none j pos) (tC .non):=λ_ _ _ H _ I h=>Constant_none ⟨.non,H,I,rfl,h⟩
theorem ak{x j pos}:PE X (.Constant (.str x) j pos) (tC<|.str x):=λ_ _ _ H _ I h=>Calls.Constant_str ⟨.str x,H,I.tok _,⟨_,rfl⟩,h⟩
def Gl(X:Cx)(x:Str):Prop:=X.env.kindOf x=some .globalImplicit
theorem il{E:Gv->Gw->Prop}{Z_:List (Addr×Obj)}{s:Gw}{Y:St}{H:Hp}{x:Str}{u:Gv}{pos:Pos}{Q:Gv->Gw->Prop}(I:Inv X Z_ Y H s)(hg:Gl X x)(hm:X.mg x=some u)(h:Q u s)
  (hd:(x==("__debug__" :Str))=false:=by decide):wpAny (model X.prog X.w) X.A (eval (.Name x pos) X.env) Q E s:=
 Lr I.ok.kind hg (Calls.loadGlobal_global (by rw[I.ok.glob];exact I.mod.glob.keeps I.bk) hm h) hd
theorem jE{E:Gv->Gw->Prop}{Z_:List (Addr×Obj)}{s:Gw}{Y:St}{H:Hp}{x:Str}{u:Gv}{pos:Pos}{Q:Gv->Gw->Prop}(I:Inv X Z_ Y H s)(hg:Gl X x)(hm:X.mg x=none)(hv:bootBuiltins x=some u)(h:Q u s)
  (hn:x≠"__name__":=by decide) (hd:(x==("__debug__" :Str))=false:=by decide):wpAny (model X.prog X.w) X.A (eval (.Name x pos) X.env) Q E s:=by
 obtain⟨mb,h1,h2⟩:=I.mod.blt;exact Lr I.ok.kind hg (Calls.loadGlobal_builtin (by rw[I.ok.glob];exact I.mod.glob.keeps I.bk) hm (by rw[I.ok.blt];exact h1.keeps I.bk) ((h2 x hn).trans hv) h) hd
theorem bQ{x:Str}{v:V}{u:Gv}{pos:Pos}(hg:Gl X x)(hm:X.mg x=some u)(r:RelV v u)(hd:(x==("__debug__" :Str))=false:=by decide):PE X (.Name x pos) (tC v):=
 λ_ _ _ H _ I h=>il I hg hm ⟨v,H,I,r,h⟩ hd
theorem dU{x:Str}{v:V}{u:Gv}{pos:Pos}(hg:Gl X x)(hm:X.mg x=none)(hv:bootBuiltins x=some u)(r:RelV v u)(hn:x≠"__name__":=by decide)(hd:(x==("__debug__" :Str))=false:=by decide):PE X (.Name x pos) (tC v):=
 λ_ _ _ H _ I h=>jE I hg hm hv ⟨v,H,I,r,h⟩ hn hd
variable{a b:Expr}{ta tb:TE}{pos:Pos}
def PC(X:Cx)(op:Qc)(a b:Expr)(t:TE):Prop:=
 ∀(Z_:List (Addr×Obj))(s:Gw)(Y:St)(H:Hp)(Q:VK),Inv X Z_ Y H s->t Y H Q->
  wpAny (model X.prog X.w) X.A (eval a X.env) (λv s₁=>wpAny (model X.prog X.w) X.A (eval b X.env) (λu s₂=>wpAny (model X.prog X.w) X.A (compareOp op v u) (EP X Z_ Y Q) X.xe s₂) X.xe s₁) X.xe s
def tB(t:TE):TT:=λY H Q=>t Y H λx H1=>∃c,x=.bl c/\Q c H1
theorem ve{op:Qc}{t:TE}(h:PC X op a b t)(h1:behindInMarks op b=false:=by first|exact nobehind _ ⋯ ⋯|rfl):PT X (.Compare a [op] [b] pos) (tB t):=by
 intro Z_ s Y H Q I hw;refine Mw (cG (h Z_ s Y H _ I hw) λv s1 h1=>cG h1 λu s2 h2=>cG h2 λc s3⟨x,H1,I1,r1,q1⟩=>?_) h1;obtain⟨d,rfl,q⟩:=q1;cases r1;exact IT ⟨H1,I1,q⟩
theorem cO{e:Expr}{t:TE}(h:PE X e t)(he:∀whole,isTrue e X.env whole=(do let v <-whole;standAt e.pos;holding [v] (truthy v)):=by intro _;rfl):PT X e (tB t):=by
 intro Z_ s Y H Q I hw;refine isTrue_plain (cG (h Z_ s Y H _ I hw) λv s1⟨x,H1,I1,r1,q1⟩=>?_)<|he _;obtain⟨d,rfl,q⟩:=q1;cases r1;exact IT ⟨H1,I1,q⟩
variable{tA tB':TT}{rest:List Expr}
def dC(t u:TT):TT:=λY H Q=>t Y H λc H1=>if c=true then u Y H1 Q else Q false H1
def gN(t u:TT):TT:=λY H Q=>t Y H λc H1=>if c=true then Q true H1 else u Y H1 Q
def dn(t:TT):TT:=λY H Q=>t Y H λc H1=>Q (!c) H1
theorem ja(ha:PT X a tA):PW X (.BoolOp .And [a] pos) tA:=by
 intro wh Z_ s Y H Q I h;refine isTrue_and<|cG (ha Z_ s Y H Q I h) λc s1 e=>?_;cases c with
 |true=>exact isTrue_and_nil e
 |false=>exact e
theorem jF(ha:PT X a tA):PW X (.BoolOp .Or [a] pos) tA:=by
 intro wh Z_ s Y H Q I h;refine isTrue_or<|cG (ha Z_ s Y H Q I h) λc s1 e=>?_;cases c with
 |false=>exact isTrue_or_nil e
 |true=>exact e
theorem l0(ha:PT X a tA)(hb:PW X (.BoolOp .And (b::rest) pos) tB'):PW X (.BoolOp .And (a::b::rest) pos) (dC tA tB'):=by
 intro wh Z_ s Y H Q I h;refine isTrue_and<|cG (ha Z_ s Y H _ I h) λc s1 zz=>?_;obtain⟨H1,I1,q1⟩:=zz;cases c with
 |true=>exact hb wh Z_ s1 Y H1 Q I1 q1
 |false=>exact⟨H1,I1,q1⟩
theorem l6(ha:PT X a tA)(hb:PW X (.BoolOp .Or (b::rest) pos) tB'):PW X (.BoolOp .Or (a::b::rest) pos) (gN tA tB'):=by
 intro wh Z_ s Y H Q I h;refine isTrue_or<|cG (ha Z_ s Y H _ I h) λc s1 zz=>?_;obtain⟨H1,I1,q1⟩:=zz;cases c with
 |true=>exact⟨H1,I1,q1⟩
 |false=>exact hb wh Z_ s1 Y H1 Q I1 q1
theorem dN(ha:PT X a tA):PT X (.UnaryOp .Not a pos) (dn tA):=by
 intro Z_ s Y H Q I h;exact isTrue_not<|ha Z_ s Y H (λc H1=>Q (!c) H1) I h
def bW(ta tb:TE):TE:=λY H Q=>ta Y H λx H1=>∃c,x=.bl c/\if c=true then tb Y H1 Q else Q (.bl false) H1
def bX(ta:TE):TE:=λY H Q=>ta Y H λx H1=>∃c,x=.bl c/\Q (.bl<|!c) H1
theorem nJ{op}{t:TE}(h:PE X a t):PE X (.BoolOp op [a] pos) t:=λZ_ s Y H Q I hw=>BoolOp_one<|h Z_ s Y H Q I hw
theorem l7(ha:PE X a ta)(hb:PE X (.BoolOp .And (b::rest) pos) tb):PE X (.BoolOp .And (a::b::rest) pos) (bW ta tb):=by
 intro Z_ s Y H Q I h;refine BoolOp_and<|cG (ha Z_ s Y H _ I h) λv s1 zz=>?_;obtain⟨x,H1,I1,r1,q1⟩:=zz;obtain⟨c,rfl,q1⟩:=q1;cases r1;refine IT ?_;cases c with
 |true=>exact hb Z_ s1 Y H1 Q I1 q1
 |false=>exact⟨.bl false,H1,I1,rfl,q1⟩
theorem qr(ha:PE X a ta):PE X (.UnaryOp .Not a pos) (bX ta):=by
 intro Z_ s Y H Q I h;refine UnaryOp_<|cG (ha Z_ s Y H _ I h) λv s1 zz=>?_;obtain⟨x,H1,I1,r1,q1⟩:=zz;obtain⟨c,rfl,q1⟩:=q1;cases r1;exact not_of<|IT ⟨.bl<|!c,H1,I1,rfl,q1⟩
def gO(t:TT)(ta tb:TE):TE:=λY H Q=>t Y H λc H1=>if c=true then ta Y H1 Q else tb Y H1 Q
theorem l8{c:Expr}(hc:PT X c tA)(ha:PE X a ta)(hb:PE X b tb):PE X (.IfExp c a b pos) (gO tA ta tb):=by
 intro Z_ s Y H Q I h;refine wpAny_IfExp<|cG (hc Z_ s Y H _ I h) λd s1 zz=>?_;obtain⟨H1,I1,q1⟩:=zz;cases d with
 |true=>exact ha Z_ s1 Y H1 Q I1 q1
 |false=>exact hb Z_ s1 Y H1 Q I1 q1
end
def SqL(K:Gp)(H:Hp)(a:Addr)(xs:List V):Prop:=
 Rd H a (.lst xs)\/
  ∃(o:Obj)(its:Array Gv)(n:Nat),K.lookup a=some o/\o.cls=.type "list"/\o.dict=none/\o.data=.seq its n/\its.size<=sizeLine/\Vals xs its.toList
def SqT(K:Gp)(H:Hp)(a:Addr)(xs:List V):Prop:=
 Rd H a (.tup xs)\/
  ∃(o:Obj)(its:Array Gv)(n:Nat),K.lookup a=some o/\(o.cls=.type "tuple"/\o.dict=none)/\o.data=.seq its n/\its.size<=sizeLine/\Vals xs its.toList
def Eo:Gv->Option V
 | .none=>some .non
 | .bool b=>some<|.bl b
 | .int i _=>some<|.int i
 | .str x _=>some<|.str x
 | .bytes b _=>some<|.byt b
 | .float b _=>some<|.flt b
 | .ref a=>some<|.ref a
 | .type n=>some<|.ty n
 |_=>none
theorem RelV.abs{x:V}{u:Gv}(r:RelV x u):Eo u=some x:=by
 cases x with
 |non=>cases r;rfl
 |bl _=>cases r;rfl
 |int _=>obtain⟨t,rfl⟩:=r;rfl
 |str _=>obtain⟨t,rfl⟩:=r;rfl
 |byt _=>obtain⟨t,rfl⟩:=r;rfl
 |flt _=>obtain⟨t,rfl⟩:=r;rfl
 |ref _=>cases r;rfl
 |ty _=>cases r;rfl
theorem RelV.inj{x y:V}{u:Gv}(r:RelV x u)(q:RelV y u):x=y:=Hl<|r.abs.symm.trans q.abs
theorem Vals.inj:∀{xs ys:List V}{us:List Gv},Vals xs us->Vals ys us->xs=ys
 |_,_,_,.nil,.nil=>rfl
 |_,_,_,.cons r t,.cons r' t'=>by rw[r.inj r',Vals.inj t t']
section
variable{X:Cx}{Z_:List (Addr×Obj)}{Y:St}{H:Hp}{s:Gw}{a:Addr}{xs ys:List V}
theorem SqL.of{K:Gp}(h:H a=some (.lst xs)):SqL K H a xs:=.inl<|.inl h
theorem SqT.of{K:Gp}(h:H a=some (.tup xs)):SqT K H a xs:=.inl<|.inl h
theorem Inv.list(I:Inv X Z_ Y H s)(h:SqL X.K H a xs):∃its:List Gv,Vals xs its/\PlainL s.heap a its.toArray/\xs.length<=sizeLine:=by
 rcases h with h|⟨o,its,n,hk,hc,hd,hs,hz,r⟩
 ·obtain⟨z,its,n,r,e⟩:=h.ok I.hok;exact⟨its,r,⟨_,n,e,rfl,rfl,rfl⟩,z⟩
 ·refine⟨its.toList,r,⟨o,n,I.kIn a o hk,hc,hd,by simpa using hs⟩,?_⟩;have e:=r.length;simp only[HU]at e;omega
theorem Inv.tuple(I:Inv X Z_ Y H s)(h:SqT X.K H a xs):∃its:List Gv,Vals xs its/\Qb s.heap a its.toArray/\xs.length<=sizeLine:=by
 rcases h with h|⟨o,its,n,hk,hc,hs,hz,r⟩
 ·obtain⟨z,its,r,p⟩:=h.ok I.hok;exact⟨its,r,p.tup,z⟩
 ·refine⟨its.toList,r,⟨o,I.kIn a o hk,hc.1,n,by simpa using hs⟩,?_⟩;have e:=r.length;simp only[HU]at e;omega
theorem Inv.list_inj(I:Inv X Z_ Y H s)(h:SqL X.K H a xs)(h':SqL X.K H a ys):xs=ys:=by
 obtain⟨its,r,⟨o,n,e,_,_,d⟩,_⟩:=I.list h;obtain⟨its',r',⟨o',n',e',_,_,d'⟩,_⟩:=I.list h';rw[e]at e';cases e';rw[d]at d';injection d' with d1 _;have:its=its':=by simpa using congrArg Pj d1
 subst this;exact r.inj r'
theorem Inv.tuple_inj(I:Inv X Z_ Y H s)(h:SqT X.K H a xs)(h':SqT X.K H a ys):xs=ys:=by
 obtain⟨its,r,⟨o,e,_,n,d⟩,_⟩:=I.tuple h;obtain⟨its',r',⟨o',e',_,n',d'⟩,_⟩:=I.tuple h';rw[e]at e';cases e';rw[d]at d';injection d' with d1 _;have:its=its':=by simpa using congrArg Pj d1
 subst this;exact r.inj r'
end
abbrev Cx.wish(X:Cx)(E:Gv->Gw->Prop):Cx:={X with xe:=E}
abbrev Cx.nox(X:Cx):Cx:=X.wish λ_ _=>False
theorem Cx.Ok.wish{X:Cx}(ok:X.Ok)(E:Gv->Gw->Prop):(X.wish E).Ok:=
 ⟨ok.mod,ok.kind,ok.glob,ok.blt,ok.above,ok.inj,ok.has,ok.cab,ok.hd,ok.frames,ok.stk,ok.exf,ok.bs,ok.bsz,ok.noex,ok.exfs,ok.funs,ok.frf⟩
theorem Cx.Ok.unwish{X:Cx}{E:Gv->Gw->Prop}(ok:(X.wish E).Ok):X.Ok:=
 ⟨ok.mod,ok.kind,ok.glob,ok.blt,ok.above,ok.inj,ok.has,ok.cab,ok.hd,ok.frames,ok.stk,ok.exf,ok.bs,ok.bsz,ok.noex,ok.exfs,ok.funs,ok.frf⟩
section
variable{X:Cx}{Z_:List (Addr×Obj)}{Y:St}{H:Hp}{s:Gw}{E:Gv->Gw->Prop}
theorem Inv.wish(I:Inv X Z_ Y H s)(E:Gv->Gw->Prop):Inv (X.wish E) Z_ Y H s:=⟨I.ok.wish E,I.os,I.bare,I.base,I.loc,I.cell,I.free,I.freeC,I.pin,I.hok,I.len⟩
theorem Inv.unwish(I:Inv (X.wish E) Z_ Y H s):Inv X Z_ Y H s:=⟨I.ok.unwish,I.os,I.bare,I.base,I.loc,I.cell,I.free,I.freeC,I.pin,I.hok,I.len⟩
theorem SP.unwish{D:Ends}{f:Flow}{s':Gw}(h:SP (X.wish E) Z_ D f s'):SP X Z_ D f s':=by
 cases f with
 |next=>obtain⟨σ',H',I,q⟩:=h;exact⟨σ',H',I.unwish,q⟩
 |brk=>obtain⟨σ',H',I,q⟩:=h;exact⟨σ',H',I.unwish,q⟩
 |cont=>obtain⟨σ',H',I,q⟩:=h;exact⟨σ',H',I.unwish,q⟩
 |ret u=>obtain⟨v,σ',H',I,r,q⟩:=h;exact⟨v,σ',H',I.unwish,r,q⟩
theorem PSs.nox{st:List Stmt}{t:TS}(h:PSs X.nox st t):PSs X st t:=λZ_ s Y H D I hw=>
 Iw (h Z_ s Y H D (I.wish _) hw) (λ_ _ q=>q.unwish) λ_ _ z=>Ik z
end
section
variable{X:Cx}{st:Stmt}{rest:List Stmt}{t u:TS}{e:Expr}{te:TE}{pos:Pos}
def aD:TS:=λD Y H=>D.nx Y H
def gA(t u:TS):TS:=λD Y H=>t {D with nx:=u D} Y H
theorem az:PSs X [] aD:=λ_ _ Y H _ I h=>Lf ⟨Y,H,I,h⟩
theorem a6(h1:PS X st t)(h2:PSs X rest u):PSs X (st::rest) (gA t u):=by
 intro Z_ s Y H D I h;refine NI<|cG (h1 Z_ s Y H {D with nx:=u D} I h) λf s1 q=>?_;cases f with
 |next=>
  obtain⟨σ',H',I',q⟩:=q;exact h2 Z_ s1 σ' H' D I' q
 |ret v=>exact q
 |brk=>exact q
 |cont=>exact q
theorem ae(h1:PS X st t):PSs X [st] t:=by
 intro Z_ s Y H D I h;refine NI<|cG (h1 Z_ s Y H D I h) λf s1 q=>?_;cases f with
 |next=>exact Lf q
 |ret v=>exact q
 |brk=>exact q
 |cont=>exact q
theorem Inv.quiet{Z_:List (Addr×Obj)}{Y:St}{H:Hp}{s:Gw}(I:Inv X Z_ Y H s):interactive X.env=false:=by simp[interactive,I.ok.kind]
def bE(te:TE):TS:=λD Y H=>te Y H λ_ H1=>D.nx Y H1
theorem bT(he:PE X e te)(hs:swapsWith e none pos.line X.env=pure false:=by rfl):PS X (.Expr e pos) (bE te):=by
 intro Z_ s Y H D I h;exact wpAny_Expr_any (cG (he Z_ s Y H _ I h) λv s1⟨x,H1,I1,r1,q1⟩=>⟨Y,H1,I1,q1⟩) I.quiet hs
def d4(te:TE):TS:=λD Y H=>te Y H D.rt
theorem ai(he:PE X e te):PS X (.Return (some e) pos) (d4 te):=by
 intro Z_ s Y H D I h;refine wpAny_Return_some<|cG (he Z_ s Y H _ I h) λv s1 zz=>?_;obtain⟨x,H1,I1,r1,q1⟩:=zz;exact⟨x,Y,H1,I1,r1,q1⟩
def jb(c:TT)(t u:TS):TS:=λD Y H=>c Y H λb H1=>if b=true then t D Y H1 else u D Y H1
theorem bq{c:Expr}{a b:List Stmt}{tc:TT}(hc:PT X c tc)(ha:PSs X a t)(hb:PSs X b u):PS X (.If c a b pos) (jb tc t u):=by
 intro Z_ s Y H D I h;refine wpAny_If<|cG (hc Z_ s Y H _ I h) λd s1 zz=>?_;obtain⟨H1,I1,q1⟩:=zz;cases d with
 |true=>exact ha Z_ s1 Y H1 D I1 q1
 |false=>exact hb Z_ s1 Y H1 D I1 q1
end
abbrev TG:=V->St->Hp->(St->Hp->Prop)->Prop
abbrev yr:=List V->St->Hp->(St->Hp->Prop)->Prop
def PG(X:Cx)(target:Expr)(t:TG):Prop:=
 ∀(Z_:List (Addr×Obj))(s:Gw)(Y:St)(H:Hp)(v:V)(u:Gv)(Q:St->Hp->Prop),Inv X Z_ Y H s->RelV v u->t v Y H Q->
  wpAny (model X.prog X.w) X.A (assign target X.env u) (λ_ s'=>∃σ' H',Inv X Z_ σ' H' s'/\Q σ' H') X.xe s
def BB(X:Cx)(ts:List Expr)(t:yr):Prop:=
 ∀(Z_:List (Addr×Obj))(s:Gw)(Y:St)(H:Hp)(vs:List V)(us:List Gv)(Q:St->Hp->Prop),Inv X Z_ Y H s->Vals vs us->t vs Y H Q->
  wpAny (model X.prog X.w) X.A (assignInOrder ((assignEach ts X.env).map (·.2)) us) (λ_ s'=>∃σ' H',Inv X Z_ σ' H' s'/\Q σ' H') X.xe s
abbrev As:=V->V->V->Hp->(Hp->Prop)->Prop
def BV(X:Cx)(t:As):Prop:=
 ∀(Z_:List (Addr×Obj))(s:Gw)(Y:St)(H:Hp)(o i v:V)(ov iv u:Gv)(Q:Hp->Prop),Inv X Z_ Y H s->RelV o ov->RelV i iv->RelV v u->t o i v H Q->
  wpAny (model X.prog X.w) X.A (setItem ov iv u) (λ_ s'=>∃H',Inv X Z_ Y H' s'/\Q H') X.xe s
abbrev Fc:=V->V->Hp->VK->Prop
section
variable{X:Cx}{pos:Pos}
def bc(i:Nat):TG:=λv Y H Q=>Q (Y.set i<|some v) H
theorem aJ{i:Nat}{x:Str}(hN:X.N.Nodup)(hi:X.N[i]? =some x)(hx:Aq X.env.scope x)(hf:X.fn x=true\/X.env.scope.names.lookup x=some .local:=by first|exact .inl rfl|exact .inr rfl|assumption):PG X (.Name x pos) (bc i):=by
 intro Z_ s Y H v u Q I r h;exact Nl<|kZ I hN hi hx r (λs' I'=>⟨_,H,I',h⟩) hf
def dq:yr:=λvs Y H Q=>vs=[]/\Q Y H
def bH(t:TG)(u:yr):yr:=λvs Y H Q=>∃v r,vs=v::r/\t v Y H λσ' H'=>u r σ' H' Q
theorem cm:BB X [] dq:=by
 intro Z_ s Y H vs us Q I r h;obtain⟨e,h⟩:=h;subst e;cases r;exact assignInOrder_nil ⟨Y,H,I,h⟩
theorem au{e:Expr}{es:List Expr}{t:TG}{u:yr}(h1:PG X e t)(h2:BB X es u)
  (hs:(assignEach (e::es) X.env).map (·.2)=assign e X.env::(assignEach es X.env).map (·.2):=by rfl):BB X (e::es) (bH t u):=by
 intro Z_ s Y H vs us Q I r h;obtain⟨v,vr,e1,h⟩:=h;subst e1;cases r with
 |cons r rr=>
  rw[hs];refine assignInOrder_cons<|cG (h1 Z_ s Y H _ _ _ I r h) λ_ s1 zz=>?_;obtain⟨σ1,H1,I1,q1⟩:=zz;exact h2 Z_ s1 σ1 H1 _ _ Q I1 rr q1
def d6(K:Gp)(n:Nat)(t:yr):TG:=λv Y H Q=>∃a xs,v=.ref a/\SqT K H a xs/\xs.length=n/\t xs Y H Q
theorem Au{es:List Expr}{k:Nat}{t:yr}{n:Nat}(hc:X.calm=true)(h:BB X es t)
  (hn:(assignEach es X.env).length=n:=by rfl) (hst:(assignEach es X.env).findIdx? (·.1)=none:=by rfl):PG X (.Tuple es k pos) (d6 X.K n t):=by
 intro Z_ s Y H v u Q I r hw;obtain⟨a,xs,e1,hq,hl,hw⟩:=hw;subst e1;cases r;obtain⟨its,rv,ht,hz⟩:=I.tuple hq;refine assign_Tuple_tuple (I.ok.hd hc) ht (by simp[hn,<-hl,rv.length]) hst λh' hx=>?_;have I1:Inv X Z_ Y H {s with heap:=h'}:=I.kept (t':=s.toks) λb o e=>hx b o (GV<|GF e) e;exact h Z_ _ Y H xs _ Q I1 (by simpa using rv) hw
def yt(to ti:TE)(t:As):TG:=λv Y H Q=>to Y H λo H1=>ti Y H1 λi H2=>t o i v H2 λH3=>Q Y H3
theorem vf{o i:Expr}{to ti:TE}{t:As}(ho:PE X o to)(hi:PE X i ti)(hs:BV X t)
  (ha:∀v,assign (.Subscript o i pos) X.env v=(do
   let ov <-holding [v] (eval o X.env)
   let iv <-holding [v,ov] (eval i X.env)
   standAt pos
   holding [v,ov,iv] (setItem ov iv v)
   release [v,ov,iv] []):=by intro _;rfl):PG X (.Subscript o i pos) (yt to ti t):=by
 intro Z_ s Y H v u Q I r h;rw[ha];refine Gn<|Ip<|cG (ho Z_ s Y H _ I h) λov s1 zz=>?_;obtain⟨x,H1,I1,r1,q1⟩:=zz;refine Gn<|Ip<|cG (hi Z_ s1 Y H1 _ I1 q1) λiv s2 zz=>?_;obtain⟨y,H2,I2,r2,q2⟩:=zz;refine Gn<|LZ<|Gn<|Ip<|cG (hs Z_ s2 Y H2 x y v ov iv u _ I2 r1 r2 r q2) λ_ s3 zz=>?_;obtain⟨H3,I3,q3⟩:=zz;exact wpAny_release ⟨Y,H3,I3,q3⟩
def cH(te:TE)(g:TG):TS:=λD Y H=>te Y H λx H1=>g x Y H1 D.nx
theorem gU{tg e:Expr}{te:TE}{g:TG}(he:PE X e te)(hg:PG X tg g)(hs:swapsWithSole [tg] e pos.line X.env=pure false:=by rfl)(hw:swappedStores [tg] e X.env=pure none:=by rfl)
  (h1:(assignEach [tg] X.env).map (·.2)=[assign tg X.env]:=by rfl):PS X (.Assign [tg] e pos) (cH te g):=by
 intro Z_ s Y H D I h;refine wpAny_Assign_stores (cG (he Z_ s Y H _ I h) λv s1⟨x,H1,I1,r1,q1⟩=>?_) hs hw;rw[h1];exact cG (hg Z_ s1 Y H1 x v _ I1 r1 q1) λ_ s2 q=>q
theorem gB{i:Nat}{x:Str}{e:Expr}{te:TE}{pos':Pos}(hN:X.N.Nodup)(hi:X.N[i]? =some x)(hx:Aq X.env.scope x)(he:PE X e te)(hs:swapsWith e (some<|.Name x pos') pos.line X.env=pure false:=by rfl)(hf:X.fn x=true\/X.env.scope.names.lookup x=some .local:=by first|exact .inl rfl|exact .inr rfl|assumption):
  PS X (.Assign [.Name x pos'] e pos) (cH te<|bc i):=by
 intro Z_ s Y H D I h;refine wpAny_Assign_Name (cG (he Z_ s Y H _ I h) λv s1⟨y,H1,I1,r1,q1⟩=>?_) hs;exact kZ I1 hN hi hx r1 (λs2 I2=>⟨_,H1,I2,q1⟩) hf
def EO(f:Int->Int->Int):Fc:=λx y H Q=>∃i j,x=.int i/\y=.int j/\Q (.int<|f i j) H
end
structure It where
 go:Nat->Hp->Prop
 yld:Nat->Hp->V->Hp->Prop
 stop:Nat->Hp->Prop
def FpOk(X:Cx)(Z_:List (Addr×Obj))(H:Hp)(b:Addr):Prop:=
 H b=none/\b≠X.env.locals/\b∉X.fs/\(b∈X.ex\/X.s₀.heap.objs.size<=b)/\(∀x c,X.env.cells.lookup x=some c->c≠b)/\∀p∈X.pn++Z_,p.1≠b
theorem Inv.fpOk{X:Cx}{Z_:List (Addr×Obj)}{Y:St}{H H':Hp}{s:Gw}{b:Addr}(I:Inv X Z_ Y H s)(hb:s.heap.objs.size<=b)(hn:H' b=none):FpOk X Z_ H' b:=by
 refine⟨hn,Jg<|GC I.lt hb,I.nofs hb,.inr<|HB I.sz hb,λx c e z=>?_,λp hp z=>?_⟩
 ·obtain⟨v,q⟩:=I.cell x c e;exact absurd (GC q.lt (by rw[z];exact hb))<|Hx _
 ·exact absurd (GC (GF (I.pin p hp).1) (by rw[z];exact hb))<|Hx _
structure Turn(P:GQ)(w:Ha)(K:Gp)(tg:Expr)(J:It)(fp:List Addr)(it:Addr)(tn:Nat->Heap->Prop):Prop where
 mem:it∈fp
 obj:∀i h,tn i h->∀b∈fp,∃o,h.get? b=some o/\∀v,o.data≠.cell v
 keep:∀i h h',tn i h->(∀b∈fp,∀o,h.get? b=some o->h'.get? b=some o)->tn i h'
 item:∀(X:Cx),X.prog=P->X.w=w->X.K=K->X.calm=true->∀(i:Nat)(Z_:List (Addr×Obj))(s:Gw)(Y:St)(H:Hp)(E:Gv->Gw->Prop),Inv X Z_ Y H s->(∀b∈fp,FpOk X Z_ H b)->tn i s.heap->J.go i H->
  wpAny (model P w) X.A (pyNext<|.ref it) (λr s1=>∃u,r=some u/\
   wpAny (model P w) X.A (letOwnedTupleGo tg (.ref it) u) (λ_ s2=>∃x H',Inv X Z_ Y H' s2/\RelV x u/\J.yld i H x H'/\tn (i+1) s2.heap/\∀b∈fp,H' b=none) E s1) E s
 done:∀(X:Cx),X.prog=P->X.w=w->X.K=K->X.calm=true->∀(i:Nat)(Z_:List (Addr×Obj))(s:Gw)(Y:St)(H:Hp)(E:Gv->Gw->Prop),Inv X Z_ Y H s->(∀b∈fp,FpOk X Z_ H b)->tn i s.heap->J.stop i H->
  wpAny (model P w) X.A (pyNext<|.ref it) (λr s1=>r=none/\Inv X Z_ Y H s1) E s
 self:∀(A:Hf)(i:Nat)(s:Gw)(Q:Gv->Gw->Prop)(E:Gv->Gw->Prop),tn i s.heap->Q (.ref it) s->wpAny (model P w) A (pyIter<|.ref it) Q E s
abbrev TI:=St->Hp->(It->Hp->Prop)->Prop
def Ep(X:Cx)(Z_:List (Addr×Obj))(Y:St)(tg:Expr)(R:It->Hp->Prop)(itv:Gv)(s2:Gw):Prop:=
 ∃(it:Addr)(fp:List Addr)(tn:Nat->Heap->Prop)(J:It)(H':Hp),itv=.ref it/\Inv X Z_ Y H' s2/\Turn X.prog X.w X.K tg J fp it tn/\tn 0 s2.heap/\(∀b∈fp,FpOk X Z_ H' b)/\R J H'
def PI(X:Cx)(tg Z3:Expr)(wi:TI):Prop:=
 ∀(Z_:List (Addr×Obj))(s:Gw)(Y:St)(H:Hp)(R:It->Hp->Prop),Inv X Z_ Y H s->wi Y H R->
  wpAny (model X.prog X.w) X.A (eval Z3 X.env) (λv s1=>wpAny (model X.prog X.w) X.A (pyIter v) (Ep X Z_ Y tg R) X.xe s1) X.xe s
theorem oO{M:Oh}{A:Hf}{E:Gv->Gw->Prop}{s:Gw}{tg:Expr}{it:Addr}{u:Gv}{o:Obj}{n:String}{vs:Array Gv}{Q:Unit->Gw->Prop}(ho:s.heap.get? it=some o)(hc:o.cls=.type n)(hd:o.data=.fields vs)
    (hn:["enumerate","zip","dict_itemiterator","dict_reverseitemiterator","odict_iterator","itertools.zip_longest","itertools.pairwise"].contains n=false) (hQ:Q () s):wpAny M A (letOwnedTupleGo tg (.ref it) u) Q E s:=by
  unfold letOwnedTupleGo
  cases tg<;>first
    |exact Gy hQ
    |(cases u<;>first
        |exact Gy hQ
        | (refine Gn (wpAny_load ho ?_)
           rw[hc,hd];show wpAny M A (if(["enumerate","zip","dict_itemiterator","dict_reverseitemiterator","odict_iterator","itertools.zip_longest","itertools.pairwise"].contains n&&vs[0]? ==some (rawInt _))=true then _ else _) Q E s;rw[Z2 (by intro h;rw[hn,MH]at h;cases h)];exact Gy hQ))
def Es(K:Gp)(a:Addr):It:=
 ⟨λi H=>∃xs x,SqL K H a xs/\xs[i]? =some x,λi H x H'=>H'=H/\∀xs,SqL K H a xs->xs[i]? =some x,λi H=>∃xs,SqL K H a xs/\xs.length<=i⟩
def Et(lo:Int)(n:Nat):It:=⟨λi _=>i<n,λi H x H'=>H'=H/\x=.int (lo+i),λi _=>n<=i⟩
theorem ip{P:GQ}{w:Ha}{K:Gp}{tg:Expr}(a it:Addr):Turn P w K tg (Es K a) [it] it (λi h=>h.IsListIter it a i) where
 mem:=by simp
 obj:=λi h st b hb=>by
  have e:b=it:=by simpa using hb
  subst e;obtain⟨o,e,c,d⟩:=st;exact⟨o,e,λv z=>by rw[d]at z;cases z⟩
 keep:=λi h h' st k=>st.at λo e=>k it (by simp) o e
 item:=by
  intro X hP hw hK hc i Z_ s Y H E I hf st hg;subst hP hw hK;obtain⟨xs,x,hq,hx⟩:=hg;obtain⟨its,rv,p,hz⟩:=I.list hq;obtain⟨u,hu,ru⟩:=rv.get hx;obtain⟨f0,f1,f2,f3,f4,f5⟩:=hf it (by simp);refine Mc st p.isList (x:=u) (by simpa using hu) λh' st' sb=>?_;have I1:Inv X Z_ Y H {s with heap:=h'}:=I.turned (t':=s.toks) (λb o hb e=>(sb.2 b hb).trans e) f0 f1 f3 f4 f5;obtain⟨o,e,c,d⟩:=id st';exact⟨u,rfl,oO (s:={s with heap:=h'}) e c d ⋯ ⟨x,H,I1,ru,⟨rfl,λys hy=>by rw[I.list_inj hy hq];exact hx⟩,st',λb hb=>(hf b hb).1⟩⟩
 done:=by
  intro X hP hw hK hc i Z_ s Y H E I hf st hg;subst hP hw hK;obtain⟨xs,hq,hx⟩:=hg;obtain⟨its,rv,p,hz⟩:=I.list hq;obtain⟨f0,f1,f2,f3,f4,f5⟩:=hf it (by simp);have hl:=rv.length;exact wpAny_pyNext_list_end (I.ok.hd hc) st p.isList (by simp;omega) λh' eb=>⟨rfl,I.turned (t':=s.toks) (λb o hb e=>eb b o hb e) f0 f1 f3 f4 f5⟩
 self:=λ_ _ _ _ _ st h=>wpAny_pyIter_listiter st h
theorem qt{P:GQ}{w:Ha}{K:Gp}{tg:Expr}(it:Addr)(lo:Int)(n:Nat):Turn P w K tg (Et lo n) [it] it (λi h=>IsRangeIter h it (lo+(i:Nat)*1) ((n:Int)-(i:Nat)) 1) where
 mem:=by simp
 obj:=λi h st b hb=>by
  have e:b=it:=by simpa using hb
  subst e;exact⟨_,st,λv z=>by
   have z':LM _=Kb v:=z;cases z'⟩
 keep:=λi h h' st k=>k it (by simp) _ st
 item:=by
  intro X hP hw hK hc i Z_ s Y H E I hf st hg;subst hP hw hK;obtain⟨f0,f1,f2,f3,f4,f5⟩:=hf it (by simp);have W:=Walks.range (prog:=X.prog) (w:=X.w) (I.ok.hd hc) it lo 1 n;refine W.item i s _ _ hg st λv h' tk hv st' kk=>?_;obtain⟨t,rfl⟩:=hv;have I1:Inv X Z_ Y H {s with heap:=h',toks:=tk}:=I.turned (λb o hb e=>kk b o (by simpa using hb) e) f0 f1 f3 f4 f5;refine⟨_,rfl,oO (s:={s with heap:=h',toks:=tk}) (n:="range_iterator") st' rfl rfl ⋯ ⟨.int<|lo+i,H,I1,⟨t,?_⟩,⟨rfl,rfl⟩,st',λb hb=>(hf b hb).1⟩⟩;rw[Int.mul_one]
 done:=by
  intro X hP hw hK hc i Z_ s Y H E I hf st hg;subst hP hw hK;obtain⟨f0,f1,f2,f3,f4,f5⟩:=hf it (by simp);exact wpAny_pyNext_range_end (I.ok.hd hc) st (by have:n<=i:=hg;omega) λh' eb=>⟨rfl,I.turned (t':=s.toks) (λb o hb e=>eb b o hb e) f0 f1 f3 f4 f5⟩
 self:=λ_ _ _ _ _ st h=>wpAny_pyIter_rangeiter st h
section
variable{X:Cx}{tg:Expr}
def oP(K:Gp)(tl:TE):TI:=λY H R=>tl Y H λx H1=>∃a,x=.ref a/\(∃xs,SqL K H1 a xs)/\R (Es K a) H1
theorem yu{l:Expr}{tl:TE}(hl:PE X l tl):PI X tg l (oP X.K tl):=by
 intro Z_ s Y H R I h;refine cG (hl Z_ s Y H _ I h) λv s1 zz=>?_;obtain⟨x,H1,I1,r1,q1⟩:=zz;obtain⟨a,e,⟨xs,hq⟩,q⟩:=q1;subst e;cases r1;obtain⟨its,rv,p,hz⟩:=I1.list hq;refine JY p.isList ?_;refine⟨s1.heap.objs.size,[s1.heap.objs.size],_,_,H1,rfl,I1.kept (t':=s1.toks) λb o e=>Gu _ e,ip a _,⟨_,GA _ rfl,rfl,rfl⟩,λb hb=>?_,q⟩;have e:b=s1.heap.objs.size:=by simpa using hb
 subst e;exact I1.fpOk (GO _)<|I1.hok.fresh<|GO _
theorem vg{Z_:List (Addr×Obj)}{Y:St}{H:Hp}{s:Gw}{R:It->Hp->Prop}{E:Gv->Gw->Prop}{lo hi:Int}{t u v:Tok}{tk:Nat}(I:Inv X Z_ Y H s)(h1: -(2^62)<=lo)(h2:lo<2^62)(h3: -(2^62)<=hi)(h4:hi<2^62)
  (q:R (Et lo (hi-lo).toNat) H):wpAny (model X.prog X.w) X.A (pyIter<|.ref s.heap.objs.size) (Ep X Z_ Y tg R) E {s with heap:=s.heap.push {cls:=.type "range",data:=.fields #[.int lo t,.int hi u,.int 1 v]},toks:=tk}:=by
 refine wpAny_pyIter_range (IsRange.new ..) (small_one h1 h2 h3 h4) ?_;have I1:Inv X Z_ Y H {s with heap:=s.heap.push {cls:=.type "range",data:=.fields #[.int lo t,.int hi u,.int 1 v]},toks:=tk}:=I.kept λb o e=>Gu _ e;refine⟨(s.heap.push {cls:=.type "range",data:=.fields #[.int lo t,.int hi u,.int 1 v]}).objs.size,[(s.heap.push {cls:=.type "range",data:=.fields #[.int lo t,.int hi u,.int 1 v]}).objs.size],_,_,H,rfl,
  I1.kept (t':=tk) λb o e=>Gu _ e,qt _ lo (hi-lo).toNat,?_,λb hb=>?_,q⟩
 ·have e1:lo+((0:Nat):Int)*1=lo:=by simp
  have e2:(((hi-lo).toNat:Nat):Int)-((0:Nat):Int)=Pg lo hi 1:=by rw[rangeSize_one];split<;>omega
  show IsRangeIter _ _ (lo+((0:Nat):Int)*1) ((((hi-lo).toNat:Nat):Int)-((0:Nat):Int)) 1;rw[e1,e2];exact GA _ rfl
 ·have e:b=(s.heap.push {cls:=.type "range",data:=.fields #[.int lo t,.int hi u,.int 1 v]}).objs.size:=by simpa using hb
  subst e;exact I1.fpOk (GO _)<|I1.hok.fresh<|GO _
def vh(ta:TA):TI:=λY H R=>ta Y H λvs H1=>∃j:Int,vs=[.int j]/\ -(2^62)<=j/\j<2^62/\R (Et 0 j.toNat) H1
theorem iq{a:Expr}{ta:TA}{p pos:Pos}(hg:Gl X "range")(hm:X.mg "range"=none)(ha:PA X [a] ta)(hs:starEach [a] X.env=[(false,eval a X.env)]:=by rfl):PI X tg (.Call (.Name "range" p) [a] [] pos) (vh ta):=by
 intro Z_ s Y H R I h;refine Call_<|jE I hg hm boot_range<|Jh (cG (ha pos Z_ s Y H _ I h) λus s1⟨vs,H1,I1,r1,q1⟩=>?_) hs rfl;obtain⟨j,e,q1,q2,q⟩:=q1;subst e;cases r1 with
 |cons r rr=>
  cases rr;obtain⟨t,rfl⟩:=r;exact call_range_1 (vg I1 (by omega) (by omega) q1 q2 (by simpa using q))
def vi(wi:TI)(g:TG)(tb:TS):TS:=λD Y H=>wi Y H λJ H1=>∃W:Nat->Nat->St->Hp->Prop,(∃m,W 0 m Y H1)/\∀i m Y H,W i m Y H->
 (J.stop i H/\D.nx Y H)\/(J.go i H/\∃N:St->Hp->Prop,(∀σ' H',N σ' H'->∃m',m'<m/\W (i+1) m' σ' H')/\∀x H',J.yld i H x H'->g x Y H' λσ2 H2=>tb {D with nx:=N,ct:=N,bk:=D.nx} σ2 H2)
def l9(fp:List Addr)(h:Heap):List (Addr×Obj):=fp.filterMap λb=>(h.get? b).map λo=>(b,o)
theorem iQ{fp:List Addr}{h:Heap}{b:Addr}{o:Obj}(hb:b∈fp)(e:h.get? b=some o):(b,o)∈l9 fp h:=Kk.mpr ⟨b,hb,by rw[e];rfl⟩
theorem tm{fp:List Addr}{h:Heap}{p:Addr×Obj}(hp:p∈l9 fp h):p.1∈fp/\h.get? p.1=some p.2:=by
 obtain⟨b,hb,e⟩:=Kk.mp hp;cases q:h.get? b with
 |none=>rw[q]at e;cases e
 |some o=>
  rw[q]at e;have e':(b,o)=p:=Hl e;subst e';exact⟨hb,q⟩
theorem Inv.pinned{Z_:List (Addr×Obj)}{Y:St}{H:Hp}{s:Gw}{fp:List Addr}(I:Inv X Z_ Y H s)(hf:∀b∈fp,FpOk X Z_ H b)(ho:∀b∈fp,∃o,s.heap.get? b=some o/\∀v,o.data≠.cell v):Inv X (Z_++l9 fp s.heap) Y H s:=
 I.pins_of λp hp=>(Io.mp hp).elim (λz=>I.pin p<|HE _ z) λz=>by
  obtain⟨hb,e⟩:=tm z;obtain⟨f0,f1,f2,_⟩:=hf p.1 hb;obtain⟨o,e',d⟩:=ho p.1 hb;rw[e]at e';cases e';exact⟨e,f0,f1,f2,d⟩
theorem Inv.unpinned{Z_ pl:List (Addr×Obj)}{Y:St}{H:Hp}{s:Gw}(I:Inv X (Z_++pl) Y H s):Inv X Z_ Y H s:=I.pins_of λp hp=>I.pin p<|HE _<|IK _ hp
theorem dO{Z3:Expr}{body:List Stmt}{wi:TI}{g:TG}{tb:TS}{pos:Pos}(hp:PassesOwn (model X.prog X.w) X.A X.env X.xe)(hc:X.calm=true)(hi:PI X tg Z3 wi)(hg:PG X tg g)(hb:PSs X body tb)
  (hs:∀x,foldedSetIterable Z3 X.env x=pure x:=by intro _;rfl):PS X (.For tg Z3 body [] pos) (vi wi g tb):=by
 intro Z_ s Y H D I h;refine wpAny_For (cG (hi Z_ s Y H _ I h) λv s1 h1=>cG h1 λitv s2 h2=>?_) hs;obtain⟨it,fp,tn,J,H2,e,I2,T,st2,f2,W,⟨m0,w0⟩,turn⟩:=h2;subst e;have stat:∀{H':Hp},(∀b∈fp,H' b=none)->∀b∈fp,FpOk X Z_ H' b:=λhn b hb=>⟨hn b hb,(f2 b hb).2⟩
 refine codeAny_forLoop_any (λn s'=>∃i σ' H',Inv X Z_ σ' H' s'/\tn i s'.heap/\(∀b∈fp,H' b=none)/\W i n σ' H') ?_ m0 ⟨0,Y,H2,I2,st2,λb hb=>(f2 b hb).1,w0⟩;rintro n s3 ⟨i,σ3,H3,I3,st3,fr3,w3⟩;rcases turn i n σ3 H3 w3 with⟨stop,qn⟩|⟨go,N,hN,step⟩
 ·refine Kg hp<|cG (T.done X rfl rfl rfl hc i Z_ s3 σ3 H3 X.xe I3 (stat fr3) st3 stop) λr s4 zz=>?_;obtain⟨hr,I4⟩:=zz;subst hr;exact Lf ⟨σ3,H3,I4,qn⟩
 ·refine Kg hp<|cG (T.item X rfl rfl rfl hc i Z_ s3 σ3 H3 X.xe I3 (stat fr3) st3 go) λr s4 zz=>?_;obtain⟨u,hr,h4⟩:=zz;subst hr;refine Kg hp<|cG h4 λ_ s5 zz=>?_;obtain⟨x,H5,I5,r5,y5,st5,fr5⟩:=zz;have I5':=I5.pinned (stat fr5)<|T.obj _ _ st5;refine Kg hp<|cG (hg _ s5 σ3 H5 x u _ I5' r5<|step x H5 y5) λ_ s6 zz=>?_;obtain⟨σ6,H6,I6,q6⟩:=zz;refine Kg hp<|cG (hb _ s6 σ6 H6 _ I6 q6) λf s7 q7=>?_;have again:∀{σ7:St}{H7:Hp},Inv X (Z_++l9 fp s5.heap) σ7 H7 s7->N σ7 H7->∃m,m<n/\∃i σ' H',Inv X Z_ σ' H' s7/\tn i s7.heap/\(∀b∈fp,H' b=none)/\W i m σ' H':=λ{σ7 H7}I7 n7=>by
   obtain⟨m',hm,w7⟩:=hN σ7 H7 n7;refine⟨m',hm,i+1,σ7,H7,I7.unpinned,T.keep _ _ _ st5 λb hb o e=>(I7.pin (b,o)<|HE _<|HE _<|iQ hb e).1,λb hb=>?_,w7⟩;obtain⟨o,e,d⟩:=T.obj _ _ st5 b hb;exact(I7.pin (b,o)<|HE _<|HE _<|iQ hb e).2.1
  cases f with
  |next=>obtain⟨σ7,H7,I7,n7⟩:=q7;exact again I7 n7
  |cont=>obtain⟨σ7,H7,I7,n7⟩:=q7;exact again I7 n7
  |brk=>obtain⟨σ7,H7,I7,q7⟩:=q7;exact⟨σ7,H7,I7.unpinned,q7⟩
  |ret v=>obtain⟨x7,σ7,H7,I7,r7,q7⟩:=q7;exact⟨x7,σ7,H7,I7.unpinned,r7,q7⟩
end
abbrev R2:=V->V->Hp->VK->Prop
def OpR(X:Cx)(f:Gv->Gv->Sem Gv)(r:R2):Prop:=
 ∀(Z_:List (Addr×Obj))(s:Gw)(Y:St)(H:Hp)(x y:V)(v u:Gv)(Q:VK),Inv X Z_ Y H s->RelV x v->RelV y u->r x y H Q->
  wpAny (model X.prog X.w) X.A (f v u) (EP X Z_ Y Q) X.xe s
def Eu(X:Cx)(f:Gv->Sem Gv)(r:V->Hp->VK->Prop):Prop:=
 ∀(Z_:List (Addr×Obj))(s:Gw)(Y:St)(H:Hp)(x:V)(v:Gv)(Q:VK),Inv X Z_ Y H s->RelV x v->r x H Q->
  wpAny (model X.prog X.w) X.A (f v) (EP X Z_ Y Q) X.xe s
def ei(X:Cx)(f:Gv)(r:List V->Hp->VK->Prop):Prop:=
 ∀(Z_:List (Addr×Obj))(s:Gw)(Y:St)(H:Hp)(xs:List V)(us:List Gv)(Q:VK),Inv X Z_ Y H s->Vals xs us->r xs H Q->
  wpAny (model X.prog X.w) X.A (call f us) (EP X Z_ Y Q) X.xe s
def Ew(X:Cx)(r:V->Hp->(Bool->Hp->Prop)->Prop):Prop:=
 ∀(Z_:List (Addr×Obj))(s:Gw)(Y:St)(H:Hp)(x:V)(v:Gv)(Q:Bool->Hp->Prop),Inv X Z_ Y H s->RelV x v->r x H Q->
  wpAny (model X.prog X.w) X.A (truthy v) (TP X Z_ Y Q) X.xe s
def dW(r:R2)(ta tb:TE):TE:=λY H Q=>ta Y H λx H1=>tb Y H1 λy H2=>r x y H2 Q
def gJ(r:V->Hp->VK->Prop)(ta:TE):TE:=λY H Q=>ta Y H λx H1=>r x H1 Q
def rI(C:Int->Int->Prop)(g:Int->Int->V):R2:=λx y H Q=>∃i j,x=.int i/\y=.int j/\C i j/\Q (g i j) H
def fU(g:Int->Int->V):R2:=λx y H Q=>∃i j,x=.int i/\y=.int j/\Q (g i j) H
def rU(g:Int->V):V->Hp->VK->Prop:=λx H Q=>∃i,x=.int i/\Q (g i) H
section
variable{X:Cx}{a b c:Expr}{ta tb tc:TE}{pos:Pos}
theorem Av(ha:PE X a ta)(hb:PE X b tb){Z_:List (Addr×Obj)}{s:Gw}{Y:St}{H:Hp}{R:V->V->Hp->Prop}(I:Inv X Z_ Y H s)
  (h:ta Y H λx H1=>tb Y H1 λy H2=>R x y H2) {Q:Gv->Gw->Prop} {f:Gv->Gv->Sem Gv}
  (hf:∀v u s2 x y H2,Inv X Z_ Y H2 s2->RelV x v->RelV y u->R x y H2->wpAny (model X.prog X.w) X.A (f v u) Q X.xe s2):
  wpAny (model X.prog X.w) X.A (eval a X.env) (λv s₁=>wpAny (model X.prog X.w) X.A (eval b X.env) (λu s₂=>wpAny (model X.prog X.w) X.A (f v u) Q X.xe s₂) X.xe s₁) X.xe s:=by
 refine cG (ha Z_ s Y H _ I h) λv s1 zz=>?_;obtain⟨x,H1,I1,r1,q1⟩:=zz;refine cG (hb Z_ s1 Y H1 _ I1 q1) λu s2 zz=>?_;obtain⟨y,H2,I2,r2,q2⟩:=zz;exact hf v u s2 x y H2 I2 r1 r2 q2
theorem ag{op:PK}{r:R2}(ho:OpR X (binaryOp op) r)(ha:PE X a ta)(hb:PE X b tb):PE X (.BinOp a op b pos) (dW r ta tb):=by
 intro Z_ s Y H Q I h;exact wpAny_BinOp<|Av ha hb I h λv u s2 x y H2 I2 rx ry q=>ho Z_ s2 Y H2 x y v u Q I2 rx ry q
theorem mJ{op:UnaryOp}{r:V->Hp->VK->Prop}(ho:Eu X (unaryOp op) r)(ha:PE X a ta):PE X (.UnaryOp op a pos) (gJ r ta):=by
 intro Z_ s Y H Q I h;refine UnaryOp_<|cG (ha Z_ s Y H _ I h) λv s1 zz=>?_;obtain⟨x,H1,I1,r1,q1⟩:=zz;exact ho Z_ s1 Y H1 x v Q I1 r1 q1
theorem DC{f:Gv->Gv->Sem Gv}{C:Int->Int->Prop}{g:Int->Int->Int}
  (rule:∀(i j:Int)(t u:Tok)(s:Gw)(Q:Gv->Gw->Prop)(E:Gv->Gw->Prop),C i j->Q (.int (g i j) s.toks) {s with toks:=s.toks+1}->wpAny (model X.prog X.w) X.A (f (.int i t)<|.int j u) Q E s):
  OpR X f (rI C λi j=>.int<|g i j):=by
 intro Z_ s Y H x y v u Q I rx ry h;obtain⟨i,j,rfl,rfl,hc,q⟩:=h;obtain⟨t,rfl⟩:=rx;obtain⟨t',rfl⟩:=ry;exact rule i j t t' s _ _ hc ⟨.int<|g i j,H,I.tok _,⟨_,rfl⟩,q⟩
theorem BW{f:Gv->Gv->Sem Gv}{g:Int->Int->Int}
  (rule:∀(i j:Int)(t u:Tok)(s:Gw)(Q:Gv->Gw->Prop)(E:Gv->Gw->Prop),Q (.int (g i j) s.toks) {s with toks:=s.toks+1}->wpAny (model X.prog X.w) X.A (f (.int i t)<|.int j u) Q E s):
  OpR X f (fU λi j=>.int<|g i j):=by
 intro Z_ s Y H x y v u Q I rx ry h;obtain⟨i,j,rfl,rfl,q⟩:=h;obtain⟨t,rfl⟩:=rx;obtain⟨t',rfl⟩:=ry;exact rule i j t t' s _ _ ⟨.int<|g i j,H,I.tok _,⟨_,rfl⟩,q⟩
theorem Aw{f:Gv->Gv->Sem Gv}{g:Int->Int->Bool}
  (rule:∀(i j:Int)(t u:Tok)(s:Gw)(Q:Gv->Gw->Prop)(E:Gv->Gw->Prop),Q (.bool<|g i j) s->wpAny (model X.prog X.w) X.A (f (.int i t)<|.int j u) Q E s):
  OpR X f (fU λi j=>.bl<|g i j):=by
 intro Z_ s Y H x y v u Q I rx ry h;obtain⟨i,j,rfl,rfl,q⟩:=h;obtain⟨t,rfl⟩:=rx;obtain⟨t',rfl⟩:=ry;exact rule i j t t' s _ _ ⟨.bl<|g i j,H,I,rfl,q⟩
def BX(i j:Int):Prop:=0<j/\j<1073741824
def BY(i j:Int):Prop:=0<=j/\j<=1000000/\i.natAbs<2^64
def CMul(i j:Int):Prop:=(-(2^64)<i/\i<2^64)\/(-(2^64)<j/\j<2^64)
theorem CMul.ok{i j:Int}(h:CMul i j):IntMulOk i j:=by
 rcases h with⟨h1,h2⟩|⟨h1,h2⟩
 ·exact .of_left<|OQ h1 h2
 ·exact .of_right<|OQ h1 h2
theorem cv:OpR X (binaryOp .Add) (fU λi j=>.int<|i+j):=BW λ_ _ _ _ _ _ _ q=>add_int q
theorem gV:OpR X (binaryOp .Sub) (fU λi j=>.int<|i-j):=BW λ_ _ _ _ _ _ _ q=>sub_int q
theorem jG:OpR X (binaryOp .Mult) (rI CMul λi j=>.int<|i*j):=DC λ_ _ _ _ _ _ _ hc q=>mul_int q hc.ok
theorem cP:OpR X (binaryOp .FloorDiv) (rI BX λi j=>.int<|i/j):=DC λi j _ _ _ _ _ hc q=>by
 have h1:(0:Int)<j:=hc.1;have h2:j<1073741824:=hc.2;exact floordiv_int (by omega) (by rw[Int.fdiv_eq_ediv_of_nonneg i (by omega)];exact q) (.inl (PyProof.noPylong_small (by omega)))
theorem aX:OpR X (binaryOp .Mod) (rI (λ_ j=>0<j) λi j=>.int<|i%j):=DC λi j _ _ _ _ _ hc q=>by
 have h1:(0:Int)<j:=hc;exact mod_int' (by omega) (by rw[Int.fmod_eq_emod_of_nonneg i (by omega)];exact q)
theorem vj:OpR X (binaryOp .Pow) (rI BY λi j=>.int<|i^j.toNat):=DC λ_ _ _ _ _ _ _ hc q=>pow_int_small hc.1 hc.2.1 hc.2.2 q
theorem Fd{f:Gv->Sem Gv}{g:Int->Int}
  (rule:∀(i:Int)(t:Tok)(s:Gw)(Q:Gv->Gw->Prop)(E:Gv->Gw->Prop),Q (.int (g i) s.toks) {s with toks:=s.toks+1}->wpAny (model X.prog X.w) X.A (f<|.int i t) Q E s):
  Eu X f (rU λi=>.int<|g i):=by
 intro Z_ s Y H x v Q I rx h;obtain⟨i,rfl,q⟩:=h;obtain⟨t,rfl⟩:=rx;exact rule i t s _ _ ⟨.int<|g i,H,I.tok _,⟨_,rfl⟩,q⟩
theorem jH:Eu X (unaryOp .USub) (rU λi=>.int<|-i):=Fd λ_ _ _ _ _ q=>neg_int q
end
def dD:V->V->Bool
 | .non,.non=>true| .non,.int _=>true| .int _,.non=>true| .non,.bl _=>true| .bl _,.non=>true| .non,.str _=>true| .str _,.non=>true
 | .int _,.int _=>true| .bl _,.bl _=>true| .str _,.str _=>true| .byt _,.byt _=>true
 | .int _,.str _=>true| .str _,.int _=>true| .bl _,.str _=>true| .str _,.bl _=>true
 |_,_=>false
def gK:R2:=λx y H Q=>dD x y=true/\Q (.bl<|decide<|x=y) H
def gP:R2:=λx y H Q=>dD x y=true/\Q (.bl<|!decide (x=y)) H
theorem rp{i j:Int}:decide (V.int i=V.int j)=(i==j):=by
 rw[HZ];simp
theorem vk{i j:Bool}:decide (V.bl i=V.bl j)=(i==j):=by
 rw[HZ];simp
theorem rq{i j:Str}:decide (V.str i=V.str j)=(i==j):=by
 rw[HZ];simp
theorem rA{i j:Array UInt8}:decide (V.byt i=V.byt j)=(i.toList==j.toList):=by
 rw[HZ];cases i;cases j;simp
section
variable{X:Cx}{a b c:Expr}{ta tb tc:TE}{pos:Pos}
theorem bh{Z_:List (Addr×Obj)}{Y:St}{H:Hp}{s:Gw}{Q:VK}{k k':Bool}(I:Inv X Z_ Y H s)(q:Q (.bl k) H)(e:k=k'):EP X Z_ Y Q (.bool k') s:=by
 subst e;exact⟨.bl k,H,I,rfl,q⟩
theorem cK:OpR X (compareOp .Eq) gK:=by
 intro Z_ s Y H x y v u Q I rx ry h;obtain⟨hs,q⟩:=h;cases x with
 |non=>
  cases rx;cases y with
  |non=>cases ry;exact OE (bh I q (by simp))
  |bl j=>cases ry;exact OF (bh I q (by simp))
  |int j=>obtain⟨t',rfl⟩:=ry;exact OR (bh I q (by simp))
  |str j=>obtain⟨t',rfl⟩:=ry;exact OS (bh I q (by simp))
  |_=>exact absurd (show false=true from hs) GN
 |bl i=>
  cases rx;cases y with
  |non=>cases ry;exact OG (bh I q (by simp))
  |bl j=>cases ry;exact eq_bool<|bh I q vk
  |str j=>obtain⟨t',rfl⟩:=ry;exact OH (bh I q (by simp))
  |_=>exact absurd (show false=true from hs) GN
 |int i=>
  obtain⟨t,rfl⟩:=rx;cases y with
  |non=>cases ry;exact OT (bh I q (by simp))
  |int j=>obtain⟨t',rfl⟩:=ry;exact eq_int<|bh I q rp
  |str j=>obtain⟨t',rfl⟩:=ry;exact OU (bh I q (by simp))
  |_=>exact absurd (show false=true from hs) GN
 |str i=>
  obtain⟨t,rfl⟩:=rx;cases y with
  |non=>cases ry;exact OV (bh I q (by simp))
  |bl j=>cases ry;exact OI (bh I q (by simp))
  |int j=>obtain⟨t',rfl⟩:=ry;exact OW (bh I q (by simp))
  |str j=>obtain⟨t',rfl⟩:=ry;exact eq_str<|bh I q rq
  |_=>exact absurd (show false=true from hs) GN
 |byt i=>
  obtain⟨t,rfl⟩:=rx;cases y with
  |byt j=>obtain⟨t',rfl⟩:=ry;exact PySem.W.eq_bytes<|bh I q rA
  |_=>exact absurd (show false=true from hs) GN
 |_=>cases y<;>exact absurd (show false=true from hs) GN
theorem A0:OpR X (compareOp .NotEq) gP:=by
 intro Z_ s Y H x y v u Q I rx ry h;obtain⟨hs,q⟩:=h;cases x with
 |non=>
  cases rx;cases y with
  |non=>cases ry;exact OJ (bh I q (by simp))
  |bl j=>cases ry;exact OK (bh I q (by simp))
  |int j=>obtain⟨t',rfl⟩:=ry;exact OX (bh I q (by simp))
  |str j=>obtain⟨t',rfl⟩:=ry;exact OY (bh I q (by simp))
  |_=>exact absurd (show false=true from hs) GN
 |bl i=>
  cases rx;cases y with
  |non=>cases ry;exact OL (bh I q (by simp))
  |bl j=>cases ry;exact ne_bool<|bh I q<|congrArg not vk
  |str j=>obtain⟨t',rfl⟩:=ry;exact OM (bh I q (by simp))
  |_=>exact absurd (show false=true from hs) GN
 |int i=>
  obtain⟨t,rfl⟩:=rx;cases y with
  |non=>cases ry;exact OZ (bh I q (by simp))
  |int j=>obtain⟨t',rfl⟩:=ry;exact ne_int<|bh I q<|congrArg not rp
  |str j=>obtain⟨t',rfl⟩:=ry;exact P0 (bh I q (by simp))
  |_=>exact absurd (show false=true from hs) GN
 |str i=>
  obtain⟨t,rfl⟩:=rx;cases y with
  |non=>cases ry;exact P4 (bh I q (by simp))
  |bl j=>cases ry;exact ON (bh I q (by simp))
  |int j=>obtain⟨t',rfl⟩:=ry;exact P5 (bh I q (by simp))
  |str j=>obtain⟨t',rfl⟩:=ry;exact ne_str<|bh I q<|congrArg not rq
  |_=>exact absurd (show false=true from hs) GN
 |byt i=>
  obtain⟨t,rfl⟩:=rx;cases y with
  |byt j=>obtain⟨t',rfl⟩:=ry;exact PySem.W.ne_bytes<|bh I q<|congrArg not rA
  |_=>exact absurd (show false=true from hs) GN
 |_=>cases y<;>exact absurd (show false=true from hs) GN
theorem mK:OpR X (compareOp .Lt) (fU λi j=>.bl<|decide<|i<j):=Aw λ_ _ _ _ _ _ _ q=>lt_int q
theorem oQ:OpR X (compareOp .Gt) (fU λi j=>.bl<|decide<|j<i):=Aw λ_ _ _ _ _ _ _ q=>gt_int q
theorem vm:OpR X (compareOp .GtE) (fU λi j=>.bl<|decide<|j<=i):=Aw λ_ _ _ _ _ _ _ q=>ge_int q
theorem tu:OpR X (compareOp .In) (λx y H Q=>∃i j,x=.str i/\y=.str j/\Q (.bl<|!(IL j i 0 j.length 1).isEmpty) H):=by
 intro Z_ s Y H x y v u Q I rx ry h;obtain⟨i,j,rfl,rfl,q⟩:=h;obtain⟨t,rfl⟩:=rx;obtain⟨t',rfl⟩:=ry;exact in_str<|bh I q rfl
theorem op_isN:OpR X (compareOp .Is) (λx y H Q=>y=.non/\Q (.bl<|decide<|x=.non) H):=by
 intro Z_ s Y H x y v u Q I rx ry h;obtain⟨rfl,q⟩:=h;cases ry;refine is_none_gen<|bh I q ?_
 cases x<;>first
  |(cases rx;rfl)
  |(obtain⟨t,rfl⟩:=rx;rfl)
theorem yv:OpR X (compareOp .IsNot) (λx y H Q=>y=.non/\Q (.bl<|!decide (x=.non)) H):=by
 intro Z_ s Y H x y v u Q I rx ry h;obtain⟨rfl,q⟩:=h;cases ry;refine isnot_none_gen<|bh I q ?_
 cases x<;>first
  |(cases rx;rfl)
  |(obtain⟨t,rfl⟩:=rx;rfl)
theorem nK:OpR X (compareOp .NotIn) (λx y H Q=>∃i j,x=.str i/\y=.str j/\Q (.bl<|!(!(IL j i 0 j.length 1).isEmpty)) H):=by
 intro Z_ s Y H x y v u Q I rx ry h;obtain⟨i,j,rfl,rfl,q⟩:=h;obtain⟨t,rfl⟩:=rx;obtain⟨t',rfl⟩:=ry;exact notIn_str<|bh I q rfl
theorem OpR.or{f:Gv->Gv->Sem Gv}{r r':R2}(h:OpR X f r)(h':OpR X f r'):OpR X f (λx y H Q=>r x y H Q\/r' x y H Q):=by
 intro Z_ s Y H x y v u Q I rx ry q;rcases q with q|q
 ·exact h Z_ s Y H x y v u Q I rx ry q
 ·exact h' Z_ s Y H x y v u Q I rx ry q
theorem aH(b:Expr){op:Qc}(h:op≠.In:=by decide)(h2:op≠.NotIn:=by decide):behindInMarks op b=false:=by
 have e1:(op==CmpOp.In)=false:=by cases op<;>first|rfl|exact absurd rfl h
 have e2:(op==CmpOp.NotIn)=false:=by cases op<;>first|rfl|exact absurd rfl h2
 cases b<;>simp[behindInMarks,e1,e2]
theorem eM{op:Qc}{r:R2}(ho:OpR X (compareOp op) r)(ha:PE X a ta)(hb:PE X b tb)(hm:behindInMarks op b=false):PE X (.Compare a [op] [b] pos) (dW r ta tb):=by
 intro Z_ s Y H Q I h;exact wpAny_Compare1 (Av ha hb I h λv u s2 x y H2 I2 rx ry q=>ho Z_ s2 Y H2 x y v u Q I2 rx ry q) hm
def bY(t:TE):TT:=λY H Q=>t Y H λx H'=>∃k,x=.bl k/\Q k H'
theorem aG{op:Qc}{r:R2}(ho:OpR X (compareOp op) r)(ha:PE X a ta)(hb:PE X b tb)(hm:behindInMarks op b=false):PT X (.Compare a [op] [b] pos) (bY<|dW r ta tb):=by
 intro Z_ s Y H Q I h;refine Mw (cG (ha Z_ s Y H _ I h) λv s1⟨x,H1,I1,r1,q1⟩=>cG (hb Z_ s1 Y H1 _ I1 q1) λu s2⟨y,H2,I2,r2,q2⟩=>
  cG (ho Z_ s2 Y H2 x y v u _ I2 r1 r2 q2) λc s3⟨z,H3,I3,r3,k,e,q3⟩=>?_) hm
 subst e;cases r3;exact IT ⟨H3,I3,q3⟩
def Ax(K:Gp)(x:V)(H:Hp)(k:Bool):Prop:=
 match x with
 | .non=>k=false
 | .bl b=>k=b
 | .int i=>k=(i != 0)
 | .str y=>y.length<=sizeLine/\k=((y.length:Int) != 0)
 | .byt y=>y.size<=sizeLine/\k=((y.size:Int) != 0)
 | .ref p=>(∃xs,SqL K H p xs/\k= !xs.isEmpty)\/(∃xs,SqT K H p xs/\k= !xs.isEmpty)\/∃kvs,H p=some (.dK kvs)/\k= !kvs.isEmpty
 |_=>False
theorem qu{κ:Type}{kvs:List (κ×V)}{vs:List (κ×Gv)}(r:KV kvs vs):(!vs.isEmpty)= !kvs.isEmpty:=by
 cases r<;>rfl
theorem la{xs:List V}{its:List Gv}(r:Vals xs its):(!its.toArray.isEmpty)= !xs.isEmpty:=by
 cases r<;>simp
theorem jI:(sizeLine:Nat)<2^63:=by rw[HR];decide
theorem Ay:Ew X (λx H Q=>∃k,Ax X.K x H k/\Q k H):=by
 intro Z_ s Y H x v Q I rx h;obtain⟨k,e,q⟩:=h;have hl:=jI;have hs:sizeLine=16777216:=HR;cases x with
 |non=>
  cases rx;have e':k=false:=e;subst e';exact truthy_none ⟨H,I,q⟩
 |bl b=>
  cases rx;have e':k=b:=e;subst e';exact IT ⟨H,I,q⟩
 |int i=>
  obtain⟨t,rfl⟩:=rx;have e':k=(i != 0):=e;subst e';exact PySem.P.truthy_int ⟨H,I,q⟩
 |str y=>
  obtain⟨t,rfl⟩:=rx;obtain⟨hy,e'⟩:y.length<=sizeLine/\k=((y.length:Int) != 0):=e;subst e';exact PySem.P.truthy_str (by omega) ⟨H,I.tok _,q⟩
 |byt y=>
  obtain⟨t,rfl⟩:=rx;obtain⟨hy,e'⟩:y.size<=sizeLine/\k=((y.size:Int) != 0):=e;subst e';exact PySem.W.truthy_bytes (by omega) ⟨H,I.tok _,q⟩
 |ref p=>
  cases rx;have e':(∃xs,SqL X.K H p xs/\k= !xs.isEmpty)\/(∃xs,SqT X.K H p xs/\k= !xs.isEmpty)\/∃kvs,H p=some (.dK kvs)/\k= !kvs.isEmpty:=e;rcases e' with⟨xs,hx,e'⟩|⟨xs,hx,e'⟩|⟨kvs,hx,e'⟩
  ·subst e';obtain⟨its,r,pl,hz⟩:=I.list hx;have hlen:=r.length;exact wpAny_truthy_list pl.isList (by simp only[GG];omega) ⟨H,I.tok _,by rw[la r];exact q⟩
  ·subst e';obtain⟨its,r,pl,hz⟩:=I.tuple hx;have hlen:=r.length;exact truthy_tuple pl (by simp only[GG];omega) ⟨H,I.tok _,by rw[la r];exact q⟩
  ·subst e';obtain⟨hz,hS,vs,r,m⟩:kvs.length<=sizeLine/\(p==sysModules)=false/\∃vs,KV kvs vs/\s.heap.DictOf (bK X.prog X.w) p vs:=I.hok p _ hx;have hlen:kvs.length=vs.length:=Paired.length r;exact wpAny_truthy_dict hS m (by omega) ⟨H,I.tok _,by rw[qu r];exact q⟩
 |_=>exact(show False from e).elim
theorem vn(ha:PE X a ta)(he:∀whole,isTrue a X.env whole=(do let v <-whole;standAt a.pos;holding [v] (truthy v))):
  PT X a (λY H Q=>ta Y H λx H'=>∃k,Ax X.K x H' k/\Q k H'):=by
 intro Z_ s Y H Q I h;exact isTrue_plain (cG (ha Z_ s Y H _ I h) λv s1⟨x,H1,I1,r1,q1⟩=>Ay Z_ s1 Y H1 x v Q I1 r1 q1)<|he _
theorem aF:OpR X (binaryOp .Add) (λx y H Q=>∃i j,x=.str i/\y=.str j/\i.length+j.length<=sizeLine/\Q (.str<|i++j) H):=by
 intro Z_ s Y H x y v u Q I rx ry h;obtain⟨i,j,rfl,rfl,hz,q⟩:=h;obtain⟨t,rfl⟩:=rx;obtain⟨t',rfl⟩:=ry;exact add_str (λt' tk=>⟨.str<|i++j,H,I.tok _,⟨_,rfl⟩,q⟩) hz
theorem fx{x:V}{us:List Gv}(r:Vals [x] us):∃u,us=[u]/\RelV x u:=by
 cases r with
 |cons r1 r2=>cases r2;exact⟨_,rfl,r1⟩
theorem oR{x y:V}{us:List Gv}(r:Vals [x,y] us):∃u w',us=[u,w']/\RelV x u/\RelV y w':=by
 cases r with
 |cons r1 r2=>
  cases r2 with
  |cons r3 r4=>cases r4;exact⟨_,_,rfl,r1,r3⟩
theorem gW:ei X (.builtin "abs") (λxs H Q=>∃i,xs=[.int i]/\Q (.int (if i<0 then -i else i)) H):=by
 intro Z_ s Y H xs us Q I r h;obtain⟨i,rfl,q⟩:=h;obtain⟨u,rfl,t,rfl⟩:=fx r;exact call_abs_int λu tk=>⟨.int (if i<0 then -i else i),H,I.tok _,⟨_,rfl⟩,q⟩
theorem jJ(hc:X.calm=true):ei X (.builtin "max") (λxs H Q=>∃i j,xs=[.int i,.int j]/\Q (.int (if j>i then j else i)) H):=by
 intro Z_ s Y H xs us Q I r h;obtain⟨i,j,rfl,q⟩:=h;obtain⟨u,w',rfl,⟨t,rfl⟩,⟨t',rfl⟩⟩:=oR r;refine max_two_ints (I.ok.hd hc) λh' tk k=>⟨_,H,I.kept k,?_,q⟩
 by_cases hj:j>i;·rw[Z1 hj,Z1 hj];exact⟨_,rfl⟩
 ·rw[Z2 hj,Z2 hj];exact⟨_,rfl⟩
theorem tD(hc:X.calm=true):ei X (.builtin "min") (λxs H Q=>∃i j,xs=[.int i,.int j]/\Q (.int (if j<i then j else i)) H):=by
 intro Z_ s Y H xs us Q I r h;obtain⟨i,j,rfl,q⟩:=h;obtain⟨u,w',rfl,⟨t,rfl⟩,⟨t',rfl⟩⟩:=oR r;refine min_two_ints (I.ok.hd hc) λh' tk k=>⟨_,H,I.kept k,?_,q⟩
 by_cases hj:j<i;·rw[Z1 hj,Z1 hj];exact⟨_,rfl⟩
 ·rw[Z2 hj,Z2 hj];exact⟨_,rfl⟩
theorem mL:ei X (.type "int") (λxs H Q=>(∃i,xs=[.int i]/\Q (.int i) H)\/∃k,xs=[.bl k]/\Q (.int (if k then 1 else 0)) H):=by
 intro Z_ s Y H xs us Q I r h;rcases h with⟨i,rfl,q⟩|⟨k,rfl,q⟩
 ·obtain⟨u,rfl,t,rfl⟩:=fx r;exact call_int_int ⟨.int i,H,I,⟨_,rfl⟩,q⟩
 ·obtain⟨u,rfl,r1⟩:=fx r;cases r1;exact call_int_bool ⟨.int (if k then 1 else 0),H,I.tok _,⟨_,rfl⟩,q⟩
theorem gC:ei X (.type "str") (λxs H Q=>∃i,xs=[.int i]/\i.natAbs.log2<1920/\Q (.str<|toString i) H):=by
 intro Z_ s Y H xs us Q I r h;obtain⟨i,rfl,hz,q⟩:=h;obtain⟨u,rfl,t,rfl⟩:=fx r;exact N6 hz ⟨.str _,H,I.tok _,⟨_,rfl⟩,q⟩
def oS(K:Gp)(x:V)(H:Hp)(n:Nat):Prop:=
 match x with
 | .str y=>y.length<=sizeLine/\n=y.length
 | .byt y=>y.size<=sizeLine/\n=y.size
 | .ref p=>(∃xs,SqL K H p xs/\n=xs.length)\/∃xs,SqT K H p xs/\n=xs.length
 |_=>False
theorem vo:ei X (.builtin "len") (λxs H Q=>∃x n,xs=[x]/\oS X.K x H n/\Q (.int n) H):=by
 intro Z_ s Y H xs us Q I r h;obtain⟨x,n,rfl,e,q⟩:=h;obtain⟨u,rfl,rx⟩:=fx r;have hl:=jI;have hs:sizeLine=16777216:=HR;cases x with
 |str y=>
  obtain⟨t,rfl⟩:=rx;obtain⟨hy,e'⟩:y.length<=sizeLine/\n=y.length:=e;subst e';exact len_str (by omega) ⟨.int _,H,I.tok _,⟨_,rfl⟩,q⟩
 |byt y=>
  obtain⟨t,rfl⟩:=rx;obtain⟨hy,e'⟩:y.size<=sizeLine/\n=y.size:=e;subst e';exact PySem.W.len_bytes (by omega) ⟨.int _,H,I.tok _,⟨_,rfl⟩,q⟩
 |ref p=>
  cases rx;have e':(∃xs,SqL X.K H p xs/\n=xs.length)\/∃xs,SqT X.K H p xs/\n=xs.length:=e;rcases e' with⟨xs,hx,e'⟩|⟨xs,hx,e'⟩
  ·subst e';obtain⟨its,r',pl,hz⟩:=I.list hx;have hlen:=r'.length;exact Calls.call_len_list pl.isList (by simp only[GG];omega) ⟨.int xs.length,H,I.tok _,⟨_,by simp only[GG];rw[hlen]⟩,q⟩
  ·subst e';obtain⟨its,r',pl,hz⟩:=I.tuple hx;have hlen:=r'.length;exact len_tuple pl (by simp only[GG];omega) ⟨.int xs.length,H,I.tok _,⟨_,by simp only[GG];rw[hlen]⟩,q⟩
 |_=>exact(show False from e).elim
end
structure ObjM(h:Heap)(x dx C:Addr)(mA:Str->Option Gv):Prop where
 obj:h.get? x=some (Ja C dx)
 ns:h.Ns1 dx mA
 ne:dx≠x
theorem tE{h:Heap}{dx:Addr}{mA:Str->Option Gv}(n:h.Ns1 dx mA):∃od,h.get? dx=some od/\∀name,Ls name od=some (mA name):=by
 obtain⟨o,es,ep,ho,hd,hk,_,hm⟩:=n;refine⟨o,ho,λname=>?_⟩;have e:=hm name;unfold nsFind findBy at e;rw[<-Array.find?_toList]at e;unfold Ls;rw[hd];dsimp only;split
 ·rename_i y q;rw[q]at e;exact congrArg some e
 ·rename_i q;rw[q]at e;have a:es.toList.any (·.refKey)=false:=by
   rw[List.any_eq_false];intro y hy;obtain⟨z,t,hkey⟩:=hk y<|MI.mp hy;simp[DictEntry.refKey,hkey]
  have a':¬es.toList.any (·.refKey)=true:=by rw[a];exact GN
  rw[Z2 a'];exact congrArg some e
theorem ObjM.look{h:Heap}{x dx C:Addr}{mA:Str->Option Gv}(I:ObjM h x dx C mA):∃od,Kv h x (Ja C dx) C (some od)/\∀name,Ls name od=some (mA name):=
 let ⟨od,ho,hl⟩:=tE I.ns
 ⟨od,⟨I.obj,rfl,rfl,ho⟩,hl⟩
section
variable{prog:GQ}{w:Ha}{A:Hf}{E:Gv->Gw->Prop}{s:Gw}{K:Gp}{x dx C f:Addr}{mA:Str->Option Gv}{name:Str}{v:Gv}
theorem yw{expr:Bool}{Q:Gv->Gw->Prop}(X:K.In s.heap)(I:ObjM s.heap x dx C mA)(hg:Kc K C name=true)(hh:Kw K C=true)
  (ha:GZ K (.ref C) name=some none) (hv:mA name=some v) (hv':NJ v=true) (h:Q v {s with toks:=s.toks+1}):
  wpAny (model prog w) A (getAttr (.ref x) name expr) Q E s:=by
 obtain⟨od,J,hl⟩:=I.look;exact PySem.W.get_value X J (Lk hg).1 (PySem.W.findObj_own hh ha rfl (by rw[hl,hv])) hv' h
theorem vp{pl:Sem Bool}{Q:Gv×List Gv->Gw->Prop}(X:K.In s.heap)(I:ObjM s.heap x dx C mA)(hg:Kc K C name=true)
  (hf:GZ K (.ref C) name=some (some<|.ref f)) (ht:Ln K (.ref f)=true) (hv:mA name=none) (h:Q (.ref f,[.ref x]) s):
  wpAny (model prog w) A (getMethod (.ref x) name pl) Q E s:=by
 obtain⟨od,J,hl⟩:=I.look;exact PySem.W.method_fn X J (Lk hg).1 (Lk hg).2 hf (beq_iff_eq.mp ht) (by show(Ls name od).map (·.isSome)=some false;rw[hl,hv];rfl) h
theorem yx{ns:List Str}{Q:Unit->Gw->Prop}(X:K.In s.heap)(I:ObjM s.heap x dx C mA)
  (hs:GZ K (.ref C) "__setattr__"=some (some<|.builtin "object.__setattr__")) (hp:LN K C=true) (ht:Mp K C name=some none) (hh:Kw K C=true)
  (hw:Nk mA ns) (hsz:ns.length<=sizeLine)
  (h:∀h',ObjM h' x dx C (λy=>if y=name then some v else mA y)->GW dx s.heap h'->Q () {s with heap:=h',toks:=s.toks+2}):
  wpAny (model prog w) A (setAttr (.ref x) name v) Q E s:=by
 obtain⟨od,J,hl⟩:=I.look;refine PySem.W.set_plain X J hs<|PySem.W.osa_open (s:={s with toks:=s.toks+1}) (r:=none) X J hp ht λb=>?_;obtain⟨cd,hc,hd'⟩:=PySem.W.any_some hh;have hx:s.heap.get? x=some ⟨.ref C,some dx,.plain, #[]⟩:=I.obj;refine Gn<|Gy<|Gn<|Gn<|Oj hx<|Gn<|Q0 (s:={s with toks:=s.toks+1}) (PySem.W.looks_clsIn X hc) ?_;rw[hd'];refine Gy (a:=some dx)<|Gn<|Gy<|Gn ?_;refine wpAny_nsSet1 (s:={s with toks:=s.toks+1}) I.ns λh' hn2 hs2=>?_;obtain⟨oD,esD,epD,hoD,hdD,hcD⟩:=hn2.count<|Qd name v hw;refine Gn (wpAny_lookBehind hoD (by rw[hdD];exact pastItsLine_dict (HB hcD (by rw[Hc];omega))) ?_);exact Gy<|h _ ⟨(hs2.2 _<|HW I.ne).trans I.obj,hn2,I.ne⟩ hs2
theorem vq{R:Q2->Gw->Prop}{vs:List Gv}{kw:List (Str×Gv)}(X:K.In s.heap)(hm:Mq K C=true)
  (hi:GZ K (.ref C) "__init__"=some (some<|.ref f)) (hf:PySem.W.typeIn K (.ref f)=some (.type "function"))
  (h:codeAny (model prog w) (A.under<|.builtin "type.__call__" ⟨.ref C::vs,kw⟩) (.call (.ref f) ⟨.ref (s.heap.objs.size+1)::vs,kw⟩) (PySem.W.InitBack (s.heap.objs.size+1) R)
   {s with heap:=(s.heap.push IB).push (Ja C s.heap.objs.size)}):
  codeAny (model prog w) A (.call (.ref C) ⟨vs,kw⟩) R s:=by
 obtain⟨hh,g,d,t,os⟩:=s;exact PySem.W.make_core (PySem.W.makes_of X hm) (Lu X hi) (λself=>PySem.W.bind_fn X self hf) (.inl rfl) h
end
def eZ(f:Str)(v:V):List (Str×V)->List (Str×V)
 | []=>[(f,v)]
 |(g,x)::r=>if g=f then(g,v)::r else(g,x)::eZ f v r
theorem k6(f g:Str)(v:V):∀fs:List (Str×V),(eZ f v fs).lookup g=if g=f then some v else fs.lookup g
 | []=>by
  show Il g [(f,v)]=_;by_cases h:g=f
  ·have hb:(g == f)=true:=beq_iff_eq.mpr h;simp only[Il,hb,Z1 h]
  ·have hb:(g == f)=false:=beq_eq_false_iff_ne.mpr h;simp only[Il,hb,Z2 h]
 |(k,x)::r=>by
  have ih:=k6 f g v r;rw[show eZ f v ((k,x)::r)=(if k=f then(k,v)::r else(k,x)::eZ f v r)from rfl];by_cases hk:k=f
  ·rw[Z1 hk];by_cases h:g=k
   ·have hb:(g == k)=true:=beq_iff_eq.mpr h;simp only[Il,hb,Z1<|h.trans hk]
   ·have hb:(g == k)=false:=beq_eq_false_iff_ne.mpr h;simp only[Il,hb,Z2 (λe:g=f=>h<|e.trans hk.symm)]
  ·rw[Z2 hk];by_cases h:g=k
   ·have hb:(g == k)=true:=beq_iff_eq.mpr h;simp only[Il,hb,Z2 (λe:g=f=>hk<|h.symm.trans e)]
   ·have hb:(g == k)=false:=beq_eq_false_iff_ne.mpr h;simp only[Il,hb];exact ih
theorem jK(f:Str)(v:V):∀fs:List (Str×V),f∈(eZ f v fs).map (·.1)/\∀g,g∈fs.map (·.1)->g∈(eZ f v fs).map (·.1)
 | []=>⟨by simp[eZ],λg h=>by simp at h⟩
 |(k,x)::r=>by
  obtain⟨i1,i2⟩:=jK f v r;rw[show eZ f v ((k,x)::r)=(if k=f then(k,v)::r else(k,x)::eZ f v r)from rfl];by_cases hk:k=f
  ·rw[Z1 hk];subst hk;exact⟨by simp,λg h=>by simpa using h⟩
  ·rw[Z2 hk];refine⟨?_,λg h=>?_⟩
   ·rw[Hs];exact GB _ i1
   ·rw[Hs]at h ⊢;rcases GK.mp h with e|e
    ·exact GK.mpr<|.inl e
    ·exact GB _<|i2 g e
theorem k8(f:Str)(v:V):∀fs:List (Str×V),(eZ f v fs).length<=fs.length+1
 | []=>by simp[eZ]
 |(k,x)::r=>by
  have ih:=k8 f v r;rw[show eZ f v ((k,x)::r)=(if k=f then(k,v)::r else(k,x)::eZ f v r)from rfl];by_cases hk:k=f;·rw[Z1 hk,Hc,Hc];omega
  ·rw[Z2 hk,Hc,Hc];omega
theorem RelO.some_of{v:V}{o:Option Gv}(r:RelO (some v) o):∃u,o=some u/\RelV v u:=by
 cases o with
 |none=>exact(show False from r).elim
 |some u=>exact⟨u,rfl,r⟩
theorem RelO.none_of{o:Option Gv}(r:RelO none o):o=none:=by
 cases o with
 |none=>rfl
 |some u=>exact(show False from r).elim
theorem tF{v:V}{u:Gv}(r:RelV v u):NJ u=true:=by
 cases v with
 |non=>cases (show u=Hg from r);rfl
 |bl b=>cases (show u=N5 b from r);rfl
 |int i=>obtain⟨t,e⟩:=(show ∃t,u=Lp i t from r);cases e;rfl
 |str x=>obtain⟨t,e⟩:=(show ∃t,u=MQ x t from r);cases e;rfl
 |byt b=>obtain⟨t,e⟩:=(show ∃t,u=PH b t from r);cases e;rfl
 |flt b=>obtain⟨t,e⟩:=(show ∃t,u=NV b t from r);cases e;rfl
 |ref a=>cases (show u=GH a from r);rfl
 |ty n=>cases (show u=PZ n from r);rfl
section
variable{P:GQ}{w:Ha}{H H':Hp}{h h':Heap}{a C dx:Addr}{fs fs':List (Str×V)}
theorem kK(hok:HOk P w H h)(e:H a=some (.ins C dx fs)):∃mA,ObjM h a dx C mA/\(∀f,RelO (fs.lookup f)<|mA f)/\Nk mA (fs.map (·.1))/\fs.length<=1000/\H dx=some (.own a):=by
 obtain⟨d,z,ne,ob,mA,n,r,q⟩:=(show ObjOk P w H h a (.ins C dx fs)from hok a _ e)
 exact⟨mA,⟨ob,n,ne⟩,r,q,z,d⟩
end
structure Cls(K:Gp)(C:Addr):Prop where
 pg:Kc K C NK=true
 hd:Kw K C=true
 po:LN K C=true
 sa:GZ K (.ref C) "__setattr__"=some (some<|.builtin "object.__setattr__")
theorem Cls.get{K:Gp}{C:Addr}(c:Cls K C)(f:Str):Kc K C f=true:=c.pg
def NoAttr(K:Gp)(C:Addr)(f:Str):Prop:=GZ K (.ref C) f=some none
theorem NoAttr.taker{K:Gp}{C:Addr}{f:Str}(n:NoAttr K C f):Mp K C f=some none:=by
 unfold Mp;rw[show GZ K (.ref C) f=some none from n];rfl
structure Meth(K:Gp)(C:Addr)(m:Str)(f:Addr):Prop where
 at_:GZ K (.ref C) m=some (some<|.ref f)
 fn:Ln K (.ref f)=true
 kp:I9 K (.ref f)=true
section
variable{X:Cx}{Z_:List (Addr×Obj)}{Y:St}{H:Hp}{s:Gw}{a C dx:Addr}{fs:List (Str×V)}{f:Str}{v:V}{A:Hf}{E:Gv->Gw->Prop}
theorem qv{b:Bool}{Q:Gv->Gw->Prop}(I:Inv X Z_ Y H s)(e:H a=some (.ins C dx fs))(c:Cls X.K C)(n:NoAttr X.K C f)(l:fs.lookup f=some v)
  (h:∀u s',Inv X Z_ Y H s'->RelV v u->Q u s'):wpAny (model X.prog X.w) A (getAttr (.ref a) f b) Q E s:=by
 obtain⟨mA,ZZ,r,_,_,_⟩:=kK I.hok e;obtain⟨u,hu,ru⟩:=RelO.some_of (v:=v) (o:=mA f) (by rw[<-l];exact r f);exact yw I.kIn ZZ (c.get f) c.hd n hu (tF ru)<|h u _ (I.tok _) ru
theorem lb{m:Str}{g:Addr}{pl:Sem Bool}{Q:Gv×List Gv->Gw->Prop}(I:Inv X Z_ Y H s)(e:H a=some (.ins C dx fs))(c:Cls X.K C)(k:Meth X.K C m g)(l:fs.lookup m=none)
  (h:Q (.ref g,[.ref a]) s):wpAny (model X.prog X.w) A (getMethod (.ref a) m pl) Q E s:=by
 obtain⟨mA,ZZ,r,_,_,_⟩:=kK I.hok e;have hn:mA m=none:=RelO.none_of (by rw[<-l];exact r m);exact vp I.kIn ZZ (c.get m) k.at_ k.fn hn h
theorem qw{y:V}{u:Gv}{Q:Unit->Gw->Prop}(I:Inv X Z_ Y H s)(e:H a=some (.ins C dx fs))(c:Cls X.K C)(n:NoAttr X.K C f)(hl:fs.length<1000)(ry:RelV y u)
  (h:∀s',Inv X Z_ Y (cN H a<|.ins C dx<|eZ f y fs) s'->Q () s'):wpAny (model X.prog X.w) A (setAttr (.ref a) f u) Q E s:=by
 obtain⟨mA,ZZ,r,wi,_,ho⟩:=kK I.hok e;have hz:(fs.map (·.1)).length<=sizeLine:=by rw[GR,HR];omega
 refine yx I.kIn ZZ c.sa c.po n.taker c.hd wi hz λh' O' sb=>h _ ?_;have hd:∃o,h'.get? dx=some o:=let ⟨o,_,_,e',_⟩:=O'.ns;⟨o,e'⟩;refine I.write (x:=a) (e:=dx) (by rw[e];exact Jm) (.inr ho) (λb q hb z=>(sb.2 b hb).trans z) hd ?_;refine⟨by rw[ar ZZ.ne];exact ho,?_,ZZ.ne,O'.obj,_,O'.ns,λg=>?_,λg hg=>?_⟩;·have:=k8 f y fs;omega
 ·show RelO ((eZ f y fs).lookup g) (if g=f then some u else mA g);rw[k6];by_cases q:g=f;·rw[Z1 q,Z1 q];exact ry
  ·rw[Z2 q,Z2 q];exact r g
 ·by_cases q:g=f;·rw[q];exact(jK f y fs).1
  ·refine(jK f y fs).2 g (wi g λz=>hg ?_);show(if g=f then some u else mA g)=none;rw[Z2 q];exact z
theorem Inv.made(I:Inv X Z_ Y H s):Inv X Z_ Y (cN (cN H s.heap.objs.size<|.own<|s.heap.objs.size+1) (s.heap.objs.size+1)<|.ins C s.heap.objs.size [])
  {s with heap:=(s.heap.push IB).push (Ja C s.heap.objs.size)}:=by
 have e1:(s.heap.push IB).get? s.heap.objs.size=some IB:=GA s.heap rfl;have e2:((s.heap.push IB).push (Ja C s.heap.objs.size)).get? (s.heap.objs.size+1)=some (Ja C s.heap.objs.size):=by
  have:=GA (s.heap.push IB) (o:=Ja C s.heap.objs.size) rfl
  rwa [Hz]at this
 have e3:(s.heap.push IB).Ns s.heap.objs.size (λ_=>none):=⟨IB, #[],_,e1,rfl,(λe he=>absurd he (by simp)),λ_=>rfl⟩
 have I1:=I.laid (a:=s.heap.objs.size) (o:=.own<|s.heap.objs.size+1) (h':=s.heap.push IB) (t':=s.toks) (λb u q=>Gu _ q) (GO _) ⟨_,e1⟩;refine I1.laid (a:=s.heap.objs.size+1) (o:=.ins C s.heap.objs.size []) (t':=s.toks) (λb u q=>Gu _ q) (Pk<|Hz _ _) ?_;have ne:s.heap.objs.size≠s.heap.objs.size+1:=GV<|JD _;refine⟨by rw[ar ne,ao],Kp _,ne,e2,λ_=>none,(Heap.Ns1.of_empty e3).at λo q=>Gu _ q,λ_=>Jm,λy hy=>absurd rfl hy⟩
theorem yy{prog:GQ}{w:Ha}{env:Env}{e:Expr}{f:Str}{pos:Pos}{s:Gw}{Q:Gv->Gw->Prop}(hb:attributeBase e f env (eval e env)=eval e env)
  (h:wpAny (model prog w) A (eval e env) (λo s₁=>wpAny (model prog w) A (getAttr o f true) Q E s₁) E s):wpAny (model prog w) A (eval (.Attribute e f pos) env) Q E s:=
 Attribute_any_ h (by rw[arm_eval_Attribute,hb])
end
def vt(K:Gp)(ta:TE)(f:Str):TE:=λY H Q=>ta Y H λx H1=>∃a C dx fs v,x=.ref a/\H1 a=some (.ins C dx fs)/\Cls K C/\NoAttr K C f/\fs.lookup f=some v/\Q v H1
def Az(K:Gp)(ta tv:TE)(f:Str):TS:=λD Y H=>tv Y H λy H1=>ta Y H1 λx H2=>∃a C dx fs,x=.ref a/\H2 a=some (.ins C dx fs)/\Cls K C/\NoAttr K C f/\fs.length<1000/\
 D.nx Y (cN H2 a<|.ins C dx<|eZ f y fs)
def AA(X:Cx)(op:PK)(rd:V->V->Hp->VK->Prop):Prop:=
 ∀(Z_:List (Addr×Obj))(s:Gw)(Y:St)(H:Hp)(x y:V)(u v:Gv)(Q:VK),Inv X Z_ Y H s->RelV x u->RelV y v->rd x y H Q->wpAny (model X.prog X.w) X.A (inplaceOp op u v) (EP X Z_ Y Q) X.xe s
section
variable{X:Cx}{o e value:Expr}{f:Str}{pos pos' tpos:Pos}{ta tv:TE}
theorem AB(he:PE X e ta)(hb:attributeBase e f X.env (eval e X.env)=eval e X.env):PE X (.Attribute e f pos) (vt X.K ta f):=by
 intro Z_ s Y H Q I h;refine yy hb<|cG (he Z_ s Y H _ I h) λu s1 zz=>?_;obtain⟨x,H1,I1,rx,a,C,dx,fs,v,ex,ea,c,n,l,q⟩:=zz;subst ex;obtain rfl:u=GH a:=rx;exact qv I1 ea c n l λu' s2 I2 ru=>⟨v,H1,I2,ru,q⟩
theorem fI(ha:PE X o ta)(hv:PE X value tv)(hs:swapsWith value (some<|.Attribute o f pos') pos.line X.env=pure false):PS X (.Assign [.Attribute o f pos'] value pos) (Az X.K ta tv f):=by
 intro Z_ s Y H D I h;refine plainObj_wpAny_Assign_Attribute (cG (hv Z_ s Y H _ I h) λu s1⟨y,H1,I1,ry,q⟩=>cG (ha Z_ s1 Y H1 _ I1 q) λov s2⟨x,H2,I2,rx,a,C,dx,fs,ex,ea,c,n,l,q2⟩=>?_) hs;subst ex;obtain rfl:ov=GH a:=rx;exact qw I2 ea c n l ry λs3 I3=>⟨Y,_,I3,q2⟩
def Ex:V->V->Hp->VK->Prop:=λx y H Q=>∃i j,x=.int i/\y=.int j/\Q (.int<|i-j) H
theorem AD:AA X .Sub Ex:=by
 rintro Z_ s Y H x y u v Q I rx ry ⟨i,j,rfl,rfl,q⟩;obtain⟨t,rfl⟩:=(show ∃t,u=Lp i t from rx)
 obtain⟨t',rfl⟩:=(show ∃t',v=Lp j t' from ry)
 exact Pw ⟨.int<|i-j,H,I.tok _,⟨_,rfl⟩,q⟩
end
section
variable{X:Cx}{Z_:List (Addr×Obj)}{Y:St}{H:Hp}{s:Gw}{A:Hf}{E:Gv->Gw->Prop}{Q:Gv->Gw->Prop}{c:Gv}{b:Bool}
inductive TyOf(K:Gp)(H:Hp):V->Gv->Prop where
 |non:TyOf K H .non (.type "NoneType")
 |bl (x:Bool):TyOf K H (.bl x) (.type "bool")
 |int (i:Int):TyOf K H (.int i) (.type "int")
 |str (x:Str):TyOf K H (.str x) (.type "str")
 |flt (x:UInt64):TyOf K H (.flt x) (.type "float")
 |lst {a:Addr} {xs:List V} (e:H a=some (.lst xs)):TyOf K H (.ref a) (.type "list")
 |frz {a:Addr} {o:Obj} {xs:List V} (e:H a=some (.frz o<|.lst xs)):TyOf K H (.ref a) (.type "list")
 |tup {a:Addr} {xs:List V} (e:SqT K H a xs):TyOf K H (.ref a) (.type "tuple")
 |dK {a:Addr} {kvs:List (Key×V)} (e:H a=some (.dK kvs)):TyOf K H (.ref a) (.type "dict")
 |dT {a:Addr} {kvs:List (List Key×V)} (e:H a=some (.dT kvs)):TyOf K H (.ref a) (.type "dict")
 | ins {a C dx:Addr} {fs:List (Str×V)} (e:H a=some (.ins C dx fs)) (cl:Cls K C) (ha:GZ K (.ref C) "__class__" =some (some<|.builtin "object.__class__"))
   (hn:LO K (.builtin "object.__class__") "__get__"=some (some<|.builtin "getset_descriptor.__get__")) (htk:Mr K (.builtin "object.__class__")=some true)
   (hm:PySem.W.mroIn K C (.type "object")=some true):TyOf K H (.ref a) (.ref C)
theorem tG{x:V}{u t:Gv}(I:Inv X Z_ Y H s)(rx:RelV x u)(ty:TyOf X.K H x t)(e:Hh X.K t c=some b)(h:∀tk,Q (.bool b) {s with toks:=tk}):
  wpAny (model X.prog X.w) A (call (.builtin "isinstance") [u,c]) Q E s:=by
 cases ty with
 |non=>cases (show u=Hg from rx);exact Ia PySem.W.kitx_none I.kIn Jm e (λz=>nomatch z) h
 |bl y=>cases (show u=N5 y from rx);exact Ia PySem.W.kitx_bool I.kIn Jm e (λz=>nomatch z) h
 |int i=>obtain⟨t,q⟩:=(show ∃t,u=Lp i t from rx);cases q;exact Ia PySem.W.kitx_int I.kIn Jm e (λz=>nomatch z) h
 |str y=>obtain⟨t,q⟩:=(show ∃t,u=MQ y t from rx);cases q;exact Ia PySem.W.kitx_str I.kIn Jm e (λz=>nomatch z) h
 |flt y=>obtain⟨t,q⟩:=(show ∃t,u=NV y t from rx);cases q;exact Ia PySem.W.kitx_float I.kIn Jm e (λz=>nomatch z) h
 | @lst a xs ea=>
  cases (show u=GH a from rx);obtain⟨_,_,n,_,h1⟩:=(show ObjOk X.prog X.w H s.heap a (.lst xs)from I.hok a _ ea)
  exact Ia Nm I.kIn ⟨_,h1,rfl⟩ e (λz=>nomatch z) h
 | @frz a ob xs ea=>
  cases (show u=GH a from rx);obtain⟨_,_,_,n,_,h1⟩:=(show ObjOk X.prog X.w H s.heap a (.frz ob<|.lst xs)from I.hok a _ ea)
  exact Ia Nm I.kIn ⟨_,h1,rfl⟩ e (λz=>nomatch z) h
 | @tup a xs ea=>
  cases (show u=GH a from rx);obtain⟨_,_,p,_⟩:=I.tuple ea;obtain⟨o,h1,h2,_⟩:=p;exact Ia PySem.W.kitx_tuple I.kIn ⟨o,h1,h2⟩ e (λz=>nomatch z) h
 | @dK a kvs ea=>
  cases (show u=GH a from rx);obtain⟨_,_,vs,_,p⟩:=(show ObjOk X.prog X.w H s.heap a (.dK kvs)from I.hok a _ ea)
  obtain⟨o,es,ep,h1,h2,_⟩:=p;exact Ia Np I.kIn ⟨o,h1,h2.1⟩ e (λz=>nomatch z) h
 | @dT a kvs ea=>
  cases (show u=GH a from rx);obtain⟨_,_,xs,_,o,es,ep,h1,h2,_⟩:=(show ObjOk X.prog X.w H s.heap a (.dT kvs)from I.hok a _ ea)
  exact Ia Np I.kIn ⟨o,h1,h2.1⟩ e (λz=>nomatch z) h
 | @ins a C dx fs ea cl ha hn htk hm=>
  cases (show u=GH a from rx);obtain⟨mA,ZZ,_⟩:=kK I.hok ea;obtain⟨od,J,_⟩:=ZZ.look;exact Ia (PySem.W.kitx_own (cl.get _) cl.hd ha hn htk hm) I.kIn J e (λz=>nomatch z) h
end
structure Room(k:Nat)(A:Hf):Prop where
 hd:A.handled=none
 dp:A.depth+3*k+5<recursionLimit
 un:A.units+16*k+200<cLine
theorem Room.mono{j k:Nat}{A:Hf}(r:Room k A)(h:j<=k):Room j A:=⟨r.hd,by have:=r.dp;omega,by have:=r.un;omega⟩
theorem Room.deeper{k:Nat}{A:Hf}(r:Room (k+1) A)(env:Env):Room k (A.deeper env):=
 ⟨r.hd,by have:=r.dp;show A.depth+1+3*k+5<_;omega,by have:=r.un;show A.units+3+16*k+200<_;omega⟩
theorem qx{A:Hf}{C:Addr}{us:List Gv}{kw:List (Str×Gv)}:(A.under<|.builtin "type.__call__" ⟨.ref C::us,kw⟩).depth=A.depth+1:=by
 first|rfl|simp[Nq,Code.weight,Code.isCreation,Code.isGuard,Code.isCaller,PL,Nr,guardIds]
theorem qy{A:Hf}{C:Addr}{us:List Gv}{kw:List (Str×Gv)}:(A.under<|.builtin "type.__call__" ⟨.ref C::us,kw⟩).units=A.units+1:=by
 first|rfl|simp[Nq,Code.cUnits,PL,Nr]
theorem Room.make{k:Nat}{A:Hf}(r:Room (k+1) A)(C:Addr)(us:List Gv)(kw:List (Str×Gv)):Room k (A.under<|.builtin "type.__call__" ⟨.ref C::us,kw⟩):=
 ⟨r.hd,by have:=r.dp;rw[qx];omega,by have:=r.un;rw[qy];omega⟩
theorem Room.depth{k:Nat}{A:Hf}(r:Room k A):A.depth<recursionLimit:=by have:=r.dp;omega
theorem Room.units0{k:Nat}{A:Hf}(r:Room k A):A.units<cLine:=by have:=r.un;omega
def aO:TA:=λ_ H Q=>Q [] H
def ah(ta:TE)(tr:TA):TA:=λY H Q=>ta Y H λx H1=>tr Y H1 λxs H2=>Q (x::xs) H2
section
variable{X:Cx}{e:Expr}{es:List Expr}{te:TE}{t:TA}{pos:Pos}
theorem a5:PA X [] aO:=λ_ _ _ _ H Q I h=>Nt ⟨[],H,I,.nil,h⟩
theorem a4(ha:PE X e te)(hr:PA X es t)(hs:starEach (e::es) X.env=(false,eval e X.env)::starEach es X.env:=by rfl):PA X (e::es) (ah te t):=by
 intro pos Z_ s Y H Q I h;rw[hs];show wpAny _ _ (spliced ((false,eval e X.env)::backTo pos (starEach es X.env))) _ _ s;refine Lv<|cG (ha Z_ s Y H _ I h) λu s1 zz=>?_;obtain⟨x,H1,I1,r1,q1⟩:=zz;refine cG (hr pos Z_ s1 Y H1 _ I1 q1) λus s2 zz=>?_;obtain⟨xs,H2,I2,r2,q2⟩:=zz;exact⟨x::xs,H2,I2,.cons r1 r2,q2⟩
def d9(t:TA):TE:=λY H Q=>t Y H λxs H1=>xs.length<=sizeLine/\∀p,H1 p=none->Q (.ref p) (cN H1 p<|.tup xs)
def df(t:TA):TE:=λY H Q=>t Y H λxs H1=>xs.length<=sizeLine/\∀p,H1 p=none->Q (.ref p) (cN H1 p<|.lst xs)
theorem aT{x1}(h:PA X es t):PE X (.Tuple es x1 pos) (d9 t):=by
 intro Z_ s Y H Q I hq;refine wpAny_Tuple_spliced (cG (h pos Z_ s Y H _ I hq) λus s1⟨xs,H1,I1,r,z,q⟩=>⟨by rw[<-r.length];exact z,?_⟩);have hf:H1 s1.heap.objs.size=none:=I1.hok.fresh<|GO _;refine⟨.ref s1.heap.objs.size,cN H1 s1.heap.objs.size<|.tup xs,I1.laid (t':=s1.toks) (λb u e=>Gu _ e) (GO _) ?_,rfl,q _ hf⟩;exact⟨z,us,r,⟨_,GA _ rfl,⟨rfl,rfl⟩,_,rfl⟩⟩
theorem bR(h:PA X es t):PE X (.List es pos) (df t):=by
 intro Z_ s Y H Q I hq;refine wpAny_List_spliced (cG (h pos Z_ s Y H _ I hq) λus s1⟨xs,H1,I1,r,z,q⟩=>⟨by rw[<-r.length];exact z,?_⟩);have hf:H1 s1.heap.objs.size=none:=I1.hok.fresh<|GO _;refine⟨.ref s1.heap.objs.size,cN H1 s1.heap.objs.size<|.lst xs,I1.laid (t':=s1.toks) (λb u e=>Gu _ e) (GO _) ?_,rfl,q _ hf⟩;exact⟨z,us,0,r,GA _ rfl⟩
end
abbrev Sp:=List V->Hp->VK->XK->Prop
abbrev CXT:=List Env->Hp->Gw->XK->Gv->Gw->Prop
structure Env0(P:GQ)(w:Ha)(K:Gp)(mg:Str->Option Gv)(base:Heap)(A:Hf)(outer:List Env)(s:Gw)(H:Hp):Prop where
 frames:A.frames=some outer
 mod:Mod K mg base
 bs:∀b o,base.get? b=some o->s.heap.get? b=some o/\H b=none
 bsz:base.objs.size<=s.heap.objs.size
 funs:s.heap.FunFrames base outer
 frf:∀b∈frs outer,H b=none
 hok:HOk P w H s.heap
 bare:Lm s.gens
def CE(outer:List Env)(P:GQ)(w:Ha)(H:Hp)(s:Gw)(Q:VK)(u:Gv)(s':Gw):Prop:=
 ∃v H',s'.os=s.os/\Lm s'.gens/\Un (frs outer) [] H H' s.heap s'.heap/\HOk P w H' s'.heap/\RelV v u/\Q v H'
def CR(CX:CXT)(outer:List Env)(P:GQ)(w:Ha)(H:Hp)(s:Gw)(Q:VK)(E:XK)(r:Q2)(s':Gw):Prop:=
 match r with
 | .ok (.ret u)=>CE outer P w H s Q u s'
 | .ok _=>False
 | .error e=>CX outer H s E e s'
structure FnOk(P:GQ)(w:Ha)(K:Gp)(mg:Str->Option Gv)(base:Heap)(CX:CXT)(k:Nat)(f:Addr)(fd:GJ)(ps:List Str)(sp:Sp):Prop where
 len:∀vs H Q E,sp vs H Q E->vs.length=ps.length
 run:∀(A:Hf)(outer:List Env)(s:Gw)(H:Hp)(args:Args)(us:List Gv)(vs:List V)(Q:VK)(E:XK),Room k A->Env0 P w K mg base A outer s H->MR s fd args (ps.zip us)->Vals vs us->sp vs H Q E->
  codeAny (model P w) A (.call (.ref f) args) (CR CX outer P w H s Q E) s
theorem FnOk.imp{P:GQ}{w:Ha}{K:Gp}{mg:Str->Option Gv}{base:Heap}{CX:CXT}{k:Nat}{f:Addr}{fd:GJ}{ps:List Str}{sp sp':Sp}(F:FnOk P w K mg base CX k f fd ps sp)
  (h:∀vs H Q E,sp' vs H Q E->sp vs H Q E):FnOk P w K mg base CX k f fd ps sp':=
 ⟨λvs H Q E q=>F.len vs H Q E<|h _ _ _ _ q,λA outer s H args us vs Q E hr he hb hv hs=>F.run A outer s H args us vs Q E hr he hb hv<|h _ _ _ _ hs⟩
theorem Env0.make{P:GQ}{w:Ha}{K:Gp}{mg:Str->Option Gv}{base:Heap}{A:Hf}{outer:List Env}{s:Gw}{H:Hp}(e:Env0 P w K mg base A outer s H)(C:Addr)(us:List Gv)(kw:List (Str×Gv)):
  Env0 P w K mg base (A.under<|.builtin "type.__call__" ⟨.ref C::us,kw⟩) outer s H:=⟨by first|exact e.frames|(simpa [Nq,Code.envs,Nr,pushEnvs] using e.frames),e.mod,e.bs,e.bsz,e.funs,e.frf,e.hok,e.bare⟩
section
variable{X:Cx}{Z_:List (Addr×Obj)}{Y:St}{H:Hp}{s s':Gw}
theorem Inv.env0(I:Inv X Z_ Y H s):Env0 X.prog X.w X.K X.mg X.base X.A X.stack s H:=
 ⟨I.ok.frames,I.ok.mod,I.bs,HB I.ok.bsz I.sz,I.stack,I.stkFree,I.hok,I.bare⟩
theorem Inv.after{Q:VK}{u:Gv}(I:Inv X Z_ Y H s)(h:CE X.stack X.prog X.w H s Q u s'):EP X Z_ Y Q u s':=by
 obtain⟨v,H',os,bare,un,hok,r,q⟩:=h;obtain⟨hh,g,d,t,os'⟩:=s';obtain rfl:os'=s.os:=os;exact⟨v,H',I.call (h':=hh) (g':=g) (d':=d) (t':=t) (ch:=[]) un hok bare (λb z=>absurd z (by simp)),r,q⟩
end
def aU(sp:Sp)(dvs:List V)(E:XK)(t:TA):TE:=λY H Q=>t Y H λvs H1=>sp (vs++dvs) H1 Q E
def gL(C:Addr)(m:Str)(sp:Sp)(dvs:List V)(E:XK)(ta:TE)(t:TA):TE:=λY H Q=>ta Y H λx H1=>∃a dx fs,x=.ref a/\H1 a=some (.ins C dx fs)/\fs.lookup m=none/\
 t Y H1 λvs H2=>sp (x::(vs++dvs)) H2 Q E
def rB(C:Addr)(sp:Sp)(dvs:List V)(E:XK)(t:TA):TE:=λY H Q=>t Y H λvs H1=>∀x dx,H1 x=none->H1 dx=none->dx≠x->
 sp (.ref x::(vs++dvs)) (cN (cN H1 dx<|.own x) x<|.ins C dx []) (λv H2=>v=.non/\Q (.ref x) H2) E
def Binds(K:Gp)(fd:GJ)(ps:List Str)(ds:List Gv):Prop:=
 ∀(s:Gw)(us:List Gv),K.In s.heap->(us++ds).length=ps.length->MR s fd ⟨us,[]⟩ (ps.zip<|us++ds)
theorem Binds.all{K:Gp}{fd:GJ}{ps:List Str}(h:∀us:List Gv,us.length=ps.length->bindArgs fd ⟨us,[]⟩=pure (ps.zip us)):Binds K fd ps []:=λs us _ hl=>by
 rw[Hw]at hl ⊢;exact .of_eq<|h us hl
def fo(CX:CXT)(X:Cx)(E:XK):Prop:=∀(Z_:List (Addr×Obj))(Y:St)(H:Hp)(s:Gw)(e:Gv)(s':Gw),Inv X Z_ Y H s->CX X.stack H s E e s'->X.xe e s'
section
variable{X:Cx}{CX:CXT}{k:Nat}{f C:Addr}{fd:GJ}{ps:List Str}{sp:Sp}{dvs:List V}{ds:List Gv}{E:XK}{x m:Str}{p pos Z7:Pos}{e o:Expr}{es:List Expr}{ta:TE}{t:TA}
theorem qz{Z_:List (Addr×Obj)}{Y:St}{H:Hp}{s:Gw}{Q:VK}{us:List Gv}{vs:List V}(F:FnOk X.prog X.w X.K X.mg X.base CX k f fd ps sp)(hr:Room k X.A)(hb:Binds X.K fd ps ds)(hd:Vals dvs ds)(hx:fo CX X E)
  (I:Inv X Z_ Y H s) (r:Vals vs us) (h:sp (vs++dvs) H Q E):wpAny (model X.prog X.w) X.A (call (.ref f) us) (EP X Z_ Y Q) X.xe s:=by
 have r2:Vals (vs++dvs) (us++ds):=r.append hd;have hl:(us++ds).length=ps.length:=by rw[<-r2.length];exact F.len _ _ _ _ h
 refine Md<|Lo (F.run X.A X.stack s H ⟨us,[]⟩ (us++ds) (vs++dvs) Q E hr I.env0 (hb s us I.kIn hl) r2 h) λr s' hq=>?_;cases r with
 |error e=>exact hx Z_ Y H s e s' I hq
 |ok fl=>
  cases fl with
  |ret u=>exact I.after hq
  |next=>exact Ik hq
  |brk=>exact Ik hq
  |cont=>exact Ik hq
theorem rC(F:FnOk X.prog X.w X.K X.mg X.base CX k f fd ps sp)(hr:Room k X.A)(hg:Gl X x)(hm:X.mg x=some (.ref f))(hk:I9 X.K (.ref f)=true)(hb:Binds X.K fd ps ds)(hd:Vals dvs ds)(hx:fo CX X E)
  (ha:PA X (e::es) t) (hdb:(x==("__debug__" :Str))=false:=by decide) (he:starEach (e::es) X.env=(false,eval e X.env)::starEach es X.env:=by rfl) (hpl:(backTo pos<|starEach es X.env).any (·.1)=false:=by rfl):
  PE X (.Call (.Name x p) (e::es) [] pos) (aU sp dvs E t):=by
 intro Z_ s Y H Q I h;refine JL<|il I hg hm ?_ hdb;refine Kl (h₀:=X.base) I.ok.mod.kin hk (cG (ha pos Z_ s Y H _ I h) λus s1⟨vs,H1,I1,r,q⟩=>⟨I1.kIn,?_⟩) he hpl;exact qz F hr hb hd hx I1 r q
theorem rD{pl:Sem Bool}(he:PE X o ta)(c:Cls X.K C)(hm:Meth X.K C m f)(F:FnOk X.prog X.w X.K X.mg X.base CX k f fd ps sp)(hr:Room k X.A)(hb:Binds X.K fd ps ds)(hd:Vals dvs ds)(hx:fo CX X E)(ha:PA X (e::es) t)
  (hst:starEach (e::es) X.env=(false,eval e X.env)::starEach es X.env:=by rfl) (hpl:(backTo pos<|starEach es X.env).any (·.1)=false:=by rfl)
  (ht:eval (.Call (.Attribute o m Z7) (e::es) [] pos) X.env=(do
   let ov <-eval o X.env
   standAt Z7.atName
   let (f,first) <-holding [ov] (getMethod ov m pl)
   callWith pos f first (backTo pos (starEach (e::es) X.env)) (backToKw pos (keywordEach [] X.env))):=by rfl):
  PE X (.Call (.Attribute o m Z7) (e::es) [] pos) (gL C m sp dvs E ta t):=by
 intro Z_ s Y H Q I h;refine Mx (pl:=pl) (cG (he Z_ s Y H _ I h) λu s1⟨x,H1,I1,rx,a,dx,fs,ex,ea,l,q⟩=>?_) ht;subst ex;obtain rfl:u=GH a:=rx;refine lb I1 ea c hm l ?_;refine Kl (first:=[.ref a]) (h₀:=X.base) I.ok.mod.kin hm.kp (cG (ha pos Z_ s1 Y H1 _ I1 q) λus s2⟨vs,H2,I2,r,q2⟩=>⟨I2.kIn,?_⟩) hst hpl;exact qz (us:=.ref a::us) (vs:=.ref a::vs) F hr hb hd hx I2 (.cons rfl r) q2
theorem oU{pl:Sem Bool}(he:PE X o ta)(c:Cls X.K C)(hm:Meth X.K C m f)(F:FnOk X.prog X.w X.K X.mg X.base CX k f fd ps sp)(hr:Room k X.A)(hb:Binds X.K fd ps ds)(hd:Vals dvs ds)(hx:fo CX X E)
  (ht:eval (.Call (.Attribute o m Z7) [] [] pos) X.env=(do
   let ov <-eval o X.env
   standAt Z7.atName
   let (f,first) <-holding [ov] (getMethod ov m pl)
   callWith pos f first (backTo pos (starEach [] X.env)) (backToKw pos (keywordEach [] X.env))):=by rfl):
  PE X (.Call (.Attribute o m Z7) [] [] pos) (gL C m sp dvs E ta aO):=by
 intro Z_ s Y H Q I h;refine Mx (pl:=pl) (cG (he Z_ s Y H _ I h) λu s1⟨x,H1,I1,rx,a,dx,fs,ex,ea,l,q⟩=>?_) ht;subst ex;obtain rfl:u=GH a:=rx;refine lb I1 ea c hm l ?_;exact PySem.W.callWith_K0 (first:=[.ref a]) I1.kIn hm.kp<|qz (us:=[.ref a]) (vs:=[.ref a]) F hr hb hd hx I1 (.cons rfl .nil) q
structure Mk(K:Gp)(C f:Addr):Prop where
 makes:Mq K C=true
 init:GZ K (.ref C) "__init__"=some (some<|.ref f)
 fn:Ln K (.ref f)=true
 kp:I9 K (.ref C)=true
theorem vv{Z_:List (Addr×Obj)}{Y:St}{H:Hp}{s:Gw}{Q:VK}{us:List Gv}{vs:List V}(M:Mk X.K C f)(F:FnOk X.prog X.w X.K X.mg X.base CX k f fd ps sp)(hr:Room (k+1) X.A)(hb:Binds X.K fd ps ds)(hd:Vals dvs ds)
  (hx:fo CX X E) (I:Inv X Z_ Y H s) (r:Vals vs us)
  (h:∀x dx,H x=none->H dx=none->dx≠x->sp (.ref x::(vs++dvs)) (cN (cN H dx<|.own x) x<|.ins C dx []) (λv H2=>v=.non/\Q (.ref x) H2) E):
  wpAny (model X.prog X.w) X.A (call (.ref C) us) (EP X Z_ Y Q) X.xe s:=by
 have hq:=h (s.heap.objs.size+1) s.heap.objs.size (I.hok.fresh<|MJ _) (I.hok.fresh<|GO _)<|GV<|JD _;have I2:=Inv.made (C:=C) I;have r2:Vals (V.ref (s.heap.objs.size+1)::(vs++dvs)) (GH (s.heap.objs.size+1)::(us++ds)):=.cons rfl<|r.append hd;have hl:(GH (s.heap.objs.size+1)::us++ds).length=ps.length:=by
  have e:=r2.length;rw[F.len _ _ _ _ hq]at e;exact e.symm
 refine Md (vq (f:=f) I.kIn M.makes M.init (beq_iff_eq.mp M.fn) (Lo (F.run _ X.stack _ _ ⟨GH (s.heap.objs.size+1)::us,[]⟩ (GH (s.heap.objs.size+1)::(us++ds)) _ _ E (hr.make C us [])
  (I2.env0.make C us []) (hb _ (GH (s.heap.objs.size+1)::us) I2.kIn hl) r2 hq) λr s' hq'=>?_))
 cases r with
 |error e=>exact hx Z_ Y _ _ e s' I2 hq'
 |ok fl=>
  cases fl with
  |ret u=>
   obtain⟨v,H',I3,rv,ev,q3⟩:=I2.after hq';subst ev;exact⟨rv,⟨V.ref<|s.heap.objs.size+1,H',I3,rfl,q3⟩⟩
  |next=>exact Ik hq'
  |brk=>exact Ik hq'
  |cont=>exact Ik hq'
theorem yz(M:Mk X.K C f)(F:FnOk X.prog X.w X.K X.mg X.base CX k f fd ps sp)(hr:Room (k+1) X.A)(hg:Gl X x)(hm:X.mg x=some (.ref C))(hb:Binds X.K fd ps ds)(hd:Vals dvs ds)(hx:fo CX X E)
  (ha:PA X (e::es) t) (hdb:(x==("__debug__" :Str))=false:=by decide) (he:starEach (e::es) X.env=(false,eval e X.env)::starEach es X.env:=by rfl) (hpl:(backTo pos<|starEach es X.env).any (·.1)=false:=by rfl):
  PE X (.Call (.Name x p) (e::es) [] pos) (rB C sp dvs E t):=by
 intro Z_ s Y H Q I h;refine JL<|il I hg hm ?_ hdb;refine Kl (h₀:=X.base) I.ok.mod.kin M.kp (cG (ha pos Z_ s Y H _ I h) λus s1⟨vs,H1,I1,r,q⟩=>⟨I1.kIn,?_⟩) he hpl;exact vv M F hr hb hd hx I1 r q
end
structure FnScope(N P:List Str)(sc:JH):Prop where
 kind:sc.kind=.function
 co:sc.isCoroutine=false
 gen:sc.isGenerator=false
 nd:N.Nodup
 pre:N.take P.length=P
 par:∀x∈P,sc.names.lookup x=some .local\/sc.names.lookup x=some .cell
 nofree:∀y∈sc.names,y.2≠.free
theorem mM{kindOf:Str->Option JE}{x:Str}:∀{binds:List (Str×Gv)}{m:Str->Option Gv},(∀v,(x,v)∉binds)->bindL kindOf binds m x=m x
 | [],_,_=>rfl
 |(n,v)::r,m,h=>by
  unfold bindL;rw[mM λw hw=>h w<|GB _ hw];split
  ·have:x≠n:=by rintro rfl;exact h v GD
   simp[this]
  ·rfl
theorem mO{kindOf:Str->Option JE}{x:Str}:∀{binds:List (Str×Gv)}{m:Str->Option Gv},(∀v,(x,v)∉binds)->bindC kindOf binds m x=m x
 | [],_,_=>rfl
 |(n,v)::r,m,h=>by
  unfold bindC;rw[mO λw hw=>h w<|GB _ hw];split;·rfl
  ·have:x≠n:=by rintro rfl;exact h v GD
   simp[this]
theorem mP{kindOf:Str->Option JE}{x:Str}{v:Gv}:∀{P:List Str}{vs:List Gv}{i:Nat}{m:Str->Option Gv},P.Nodup->P[i]? =some x->vs[i]? =some v->kindOf x=some .local->
  bindL kindOf (P.zip vs) m x=some v
 | [],_,_,_,_,h,_,_=>by simp at h
 |_::_,[],_,_,_,_,h,_=>by simp at h
 |p::P,w::vs,0,m,nd,h1,h2,hk=>by
  simp at h1 h2;subst h1;subst h2;show bindL kindOf ((p,w)::P.zip vs) m p=_;unfold bindL;rw[mM λv hv=>(HQ.mp nd).1 (Iq hv).1,Z1 hk];simp
 |p::P,w::vs,i+1,m,nd,h1,h2,hk=>by
  show bindL kindOf ((p,w)::P.zip vs) m x=_;unfold bindL;exact mP (i:=i) (HQ.mp nd).2 (by simpa using h1) (by simpa using h2) hk
theorem mQ{kindOf:Str->Option JE}{x:Str}{v:Gv}:∀{P:List Str}{vs:List Gv}{i:Nat}{m:Str->Option Gv},P.Nodup->P[i]? =some x->vs[i]? =some v->kindOf x≠some .local->
  bindC kindOf (P.zip vs) m x=some v
 | [],_,_,_,_,h,_,_=>by simp at h
 |_::_,[],_,_,_,_,h,_=>by simp at h
 |p::P,w::vs,0,m,nd,h1,h2,hk=>by
  simp at h1 h2;subst h1;subst h2;show bindC kindOf ((p,w)::P.zip vs) m p=_;unfold bindC;rw[mO λv hv=>(HQ.mp nd).1 (Iq hv).1,Z2 hk];simp
 |p::P,w::vs,i+1,m,nd,h1,h2,hk=>by
  show bindC kindOf ((p,w)::P.zip vs) m x=_;unfold bindC;exact mQ (i:=i) (HQ.mp nd).2 (by simpa using h1) (by simpa using h2) hk
def start(N:List Str)(vs:List V):St:=vs.map some++GS (N.length-vs.length) none
def lg(CX:CXT)(P:GQ)(w:Ha)(K:Gp)(mg:Str->Option Gv)(base:Heap)(N:List Str)(Z6:Str)(scope:JH)(f:Addr)(cd:Gv)(A:Hf)(outer:List Env)(s:Gw)(H:Hp)(E:XK):Cx where
 prog:=P
 w:=w
 K:=K
 mg:=mg
 base:=base
 A:=A.deeper<|envOfC Z6 scope s.heap.objs.size f cd
 N:=N
 s₀:=s
 H₀:=H
 env:=envOfC Z6 scope s.heap.objs.size f cd
 outer:=outer
 stack:=envOfC Z6 scope s.heap.objs.size f cd::outer
 ex:=[]
 calm:=true
 fn:=λ_=>true
 pn:=[]
 xe:=λe s'=>wpAny (model P w) (A.deeper<|envOfC Z6 scope s.heap.objs.size f cd) (leaving (envOfC Z6 scope s.heap.objs.size f cd) e) (λ_ s''=>CX outer H s E e s'') (λe' s''=>CX outer H s E e' s'') s'
theorem oV{sc:JH}{n:Nat}{x:Str}(h:sc.names.lookup x=some .cell):∃c,(cellsFrom n sc.names []).lookup x=some c:=by
 have q:=JM sc.names n []<|.inl h;exact Jx.mp q
theorem mR{CX:CXT}{P:GQ}{w:Ha}{K:Gp}{mg:Str->Option Gv}{base:Heap}{N ps:List Str}{Z6:Str}{scope:JH}{f:Addr}{cd:Gv}{A:Hf}{outer:List Env}{s s1:Gw}{H:Hp}{E:XK}{us:List Gv}{vs:List V}
  (S:FnScope N ps scope) (hd:A.handled=none) (e0:Env0 P w K mg base A outer s H) (hl:vs.length=ps.length) (r:Vals vs us)
  (x:InCallC s s.heap.objs.size (bindL (envOfC Z6 scope s.heap.objs.size f cd).kindOf (ps.zip us) λ_=>none) (cellsFrom (s.heap.objs.size+1) scope.names []) (bindC (envOfC Z6 scope s.heap.objs.size f cd).kindOf (ps.zip us) λ_=>none) s1):
  Inv (lg CX P w K mg base N Z6 scope f cd A outer s H E) [] (start N vs) H s1:=by
 have hpl:ps.length<=N.length:=by have:=congrArg ID S.pre;rw[Kd]at this;omega
 obtain⟨h1,tk,rfl,hk⟩:=x.done;have noA:∀b:Addr,b∉(lg CX P w K mg base N Z6 scope f cd A outer s H E).ex:=λb z=>absurd (show b∈([]:List Addr)from z) (by simp);refine⟨⟨e0.mod,S.kind,rfl,rfl,GO _,λy z c h1 h2=>?_,λy hy=>?_,λy c _ h=>?_,λ_=>hd,MK e0.frames,.inr ⟨rfl,rfl⟩,λb z=>absurd z<|noA b,e0.bs,e0.bsz,λb _ _=>noA b,λb z=>absurd z<|noA b,e0.funs,e0.frf⟩,
  rfl,e0.bare,Un.kept hk,⟨_,x.toInCall.ns,λi y v h1 h2 h3=>?_⟩,λy c h=>⟨_,x.cell y c h⟩,e0.hok.fresh (GO _),λy c h=>?_,λp hp=>absurd (show p∈([]:List (Addr×Obj))from hp) (by simp),e0.hok.kept hk,?_⟩
 ·exact name_of_addr x.apart (Iy h1)<|Iy h2
 ·have hy:scope.names.lookup y=some .cell\/scope.names.lookup y=some .free:=hy;rcases hy with hy|hy
  ·exact oV hy
  ·exact absurd rfl<|S.nofree _<|Iy hy
 ·exact Ka<|x.above y c<|Iy h
 ·have hi:i<vs.length:=by
   unfold start at h2;by_cases hi:i<vs.length;·exact hi
   ·rw[Hm (by simpa using hi)]at h2;rw[List.getElem?_replicate]at h2;split at h2<;>cases h2
  have ha:vs[i]? =some v:=by
   unfold start at h2;rw[Hu (by simpa using hi),Hd]at h2;cases e:vs[i]? with
   |none=>rw[e]at h2;cases h2
   |some a=>rw[e]at h2;cases h2;rfl
  obtain⟨u,hu,rv⟩:=r.get ha;have hp:ps[i]? =some y:=by
   rw[<-S.pre,List.getElem?_take_of_lt (by omega)];exact h1
  have ndP:ps.Nodup:=by rw[<-S.pre];exact S.nd.sublist<|List.take_sublist _ _
  refine⟨u,rv,?_⟩;rcases S.par y (Hq hp)with k|k
  ·exact .inl ⟨k,mP ndP hp hu k⟩
  ·obtain⟨c,e⟩:=oV (n:=s.heap.objs.size+1) k;refine .inr ⟨.inl k,c,e,?_⟩;have q:=x.cell y c e;rw[mQ ndP hp hu (by show scope.names.lookup y≠_;rw[k];decide)]at q;exact q
 ·exact e0.hok.fresh<|Ka<|x.above y c<|Iy h
 ·unfold start;show _=N.length;rw[GI,GR,KG];omega
theorem A1{CX:CXT}{P:GQ}{w:Ha}{K:Gp}{mg:Str->Option Gv}{base:Heap}{k:Nat}{f:Addr}{name Z6:Str}{params:Arguments}{body:List Stmt}{scope:JH}{dV kV doc pm Z9 ct oc:Gv}{an od:Option Addr}
  {osl:Array (Option Gv)} {N ps:List Str} {sp:Sp} (lk:K.lookup f=some ⟨oc,od,.func<|IU name Z6 params body scope dV kV doc pm an Z9 ct,osl⟩) (hcd:K7 K Z9 Z6=true) (S:FnScope N ps scope)
  (len:∀vs H Q E,sp vs H Q E->vs.length=ps.length)
  (hbody:∀(A:Hf) (outer:List Env) (s:Gw) (H:Hp) (vs:List V) (Q:VK) (E:XK),Room k (A.deeper<|envOfC Z6 scope s.heap.objs.size f Z9)->sp vs H Q E->
   ∃t,PSs (lg CX P w K mg base N Z6 scope f Z9 A outer s H E) body t/\t {nx:=λ_ H'=>Q .non H',rt:=Q} (start N vs) H):
  FnOk P w K mg base CX (k+1) f (IU name Z6 params body scope dV kV doc pm an Z9 ct) ps sp:=by
 refine⟨len,λA outer s H args us vs Q E hr e0 hb r hsp=>?_⟩;have hl:=len _ _ _ _ hsp;have KX:K.In s.heap:=e0.mod.kin.keeps λb o e=>(e0.bs b o e).1;have lim:s.heap.NoLimit:=e0.mod.nolimit.keeps λb o e=>(e0.bs b o e).1;have hkind:∀y∈ps.zip us,scope.names.lookup y.1=some .local\/(scope.names.lookup y.1=some .cell/\((cellsFrom (s.heap.objs.size+1) scope.names []).lookup y.1).isSome=true):=λ⟨n,v⟩hy=>by
  rcases S.par n (Iq hy).1 with q|q;·exact .inl q
  ·exact .inr ⟨q,JM _ _ _<|.inl q⟩
 refine My hr.depth (KX _ _ lk) rfl S.co S.gen rfl (N7 KX hcd)<|hb _ _ _ _ ?_;refine Lw S.kind hkind λenv he s1 x=>?_;subst he;refine⟨lim.keeps x.toInCall.keep,codeAny_func ?_⟩;obtain⟨t,ht,hq⟩:=hbody A outer s H vs Q E (hr.deeper _) hsp;have I:Inv (lg CX P w K mg base N Z6 scope f Z9 A outer s H E) [] (start N vs) H s1:=mR S hr.hd e0 hl r x;refine Iw (ht [] s1 (start N vs) H _ I hq) (λfl s' hs=>?_) λe s' hs=>hs;have fin:∀{σ':St}{H':Hp}{v:V}{u:Gv},Inv (lg CX P w K mg base N Z6 scope f Z9 A outer s H E) [] σ' H' s'->RelV v u->Q v H'->CE outer P w H s Q u s':=
  λ{σ' H' v u}J rv q=>⟨v,H',J.os,J.bare,J.base,J.hok,rv,q⟩
 cases fl with
 |ret u=>
  obtain⟨v,σ',H',J,rv,q⟩:=hs;exact fin J rv q
 |next=>
  obtain⟨σ',H',J,q⟩:=hs;exact fin (v:=V.non) (u:=Hg) J rfl q
 |brk=>
  obtain⟨_,_,_,q⟩:=hs;exact Ik q
 |cont=>
  obtain⟨_,_,_,q⟩:=hs;exact Ik q
section
variable{X:Cx}{x:Str}{p pos:Pos}{e:Expr}{es:List Expr}{t:TA}{id T:String}{r:List V->Hp->VK->Prop}
def f9(r:List V->Hp->VK->Prop)(t:TA):TE:=λY H Q=>t Y H λvs H1=>r vs H1 Q
theorem aj(hc:ei X (.builtin id) r)(hg:Gl X x)(hm:X.mg x=none)(hv:bootBuiltins x=some (.builtin id))(ha:PA X (e::es) t)(hn:x≠"__name__":=by decide)(hdb:(x==("__debug__" :Str))=false:=by decide)
  (he:starEach (e::es) X.env=(false,eval e X.env)::starEach es X.env:=by rfl) (hpl:(backTo pos<|starEach es X.env).any (·.1)=false:=by rfl):PE X (.Call (.Name x p) (e::es) [] pos) (f9 r t):=by
 intro Z_ s Y H Q I h;refine JL<|jE I hg hm hv ?_ hn hdb;exact NL (cG (ha pos Z_ s Y H _ I h) λus s1⟨vs,H1,I1,r1,q1⟩=>hc Z_ s1 Y H1 vs us Q I1 r1 q1) he hpl
theorem bF(hc:ei X (.type T) r)(hg:Gl X x)(hm:X.mg x=none)(hv:bootBuiltins x=some (.type T))(ha:PA X (e::es) t)(hn:x≠"__name__":=by decide)(hdb:(x==("__debug__" :Str))=false:=by decide)
  (he:starEach (e::es) X.env=(false,eval e X.env)::starEach es X.env:=by rfl) (hpl:(backTo pos<|starEach es X.env).any (·.1)=false:=by rfl):PE X (.Call (.Name x p) (e::es) [] pos) (f9 r t):=by
 intro Z_ s Y H Q I h;refine JL<|jE I hg hm hv ?_ hn hdb;exact Jh (cG (ha pos Z_ s Y H _ I h) λus s1⟨vs,H1,I1,r1,q1⟩=>hc Z_ s1 Y H1 vs us Q I1 r1 q1) he hpl
end
end L2
open L2.FnScope renaming nd->Qa
open L2.PW renaming pt->N4
open L2.RelO renaming some_of->NH
open L2.SqL renaming of->Ic
open L2.SqT renaming of->NT
open L2.V renaming str->Jp,int->Kf,bl->PM
namespace HT
open PySem PyProof.Rows
section
variable{prog:GQ}{w:Ha}{A:Hf}{E:Gv->Gw->Prop}{s:Gw}
def sIx(n d:Nat):Option Int->Nat
 |none=>d
 |some v=>if v<0 then(v+(n:Int)).toNat else min v.toNat n
theorem sIx_le(n d:Nat)(hd:d<=n)(o:Option Int):sIx n d o<=n:=by
 cases o with
 |none=>exact hd
 |some v=>
  show(if v<0 then(v+(n:Int)).toNat else min v.toNat n)<=n;by_cases hv:v<0;·rw[Z1 hv];omega
  ·rw[Z2 hv];exact Nat.min_le_right _ _
end
end HT
namespace L2
open PySem PySem.Spec PyProof.Rows
abbrev TO:=St->Hp->(Option Int->Hp->Prop)->Prop
def PO(X:Cx)(e:Option Expr)(t:TO):Prop:=
 ∀(Z_:List (Addr×Obj))(s:Gw)(Y:St)(H:Hp)(Q:Option Int->Hp->Prop),Inv X Z_ Y H s->t Y H Q->
  wpAny (model X.prog X.w) X.A (evalPart e X.env) (λu s'=>∃o H',Inv X Z_ Y H' s'/\IsPart u o/\Q o H') X.xe s
def aV:TO:=λ_ H Q=>Q none H
def bZ(t:TE):TO:=λY H Q=>t Y H λx H1=>∃i,x=.int i/\Q (some i) H1
theorem lh{ns:List Int}:∀{us:List Gv},Vals (ns.map Kf) us->Nv us ns:=by
 induction ns with
 |nil=>intro us r;rw[Kx]at r;cases r;exact .nil
 |cons n ns ih=>
  intro us r;rw[Hs]at r;cases r with
  |cons r1 r2=>
   obtain⟨t,e⟩:=r1;subst e;exact .cons n t<|ih r2
section
variable{X:Cx}{e:Expr}{te:TE}{lo hi:Option Expr}{tl th:TO}{pos p2:Pos}
theorem dH:PO X none aV:=by
 intro Z_ s Y H Q I h;rw[P6];exact Gy ⟨none,H,I,.none,h⟩
theorem cC(h:PE X e te):PO X (some e) (bZ te):=by
 intro Z_ s Y H Q I hw;rw[evalPart_some];refine cG (h Z_ s Y H _ I hw) λu s1 zz=>?_;obtain⟨x,H1,I1,r1,q1⟩:=zz;obtain⟨i,rfl,q⟩:=q1;obtain⟨t,rfl⟩:=r1;exact⟨some i,H1,I1,.int i t,q⟩
def DD(X:Cx)(r:V->Option Int->Option Int->Hp->VK->Prop):Prop:=
 ∀(Z_:List (Addr×Obj))(s:Gw)(Y:St)(H:Hp)(x:V)(v vl vu:Gv)(lo hi:Option Int)(sl:Addr)(Q:VK),Inv X Z_ Y H s->RelV x v->s.heap.IsSliceOf sl vl vu .none->IsPart vl lo->IsPart vu hi->r x lo hi H Q->
  ∃T id,typeLookup (.type T) "__getitem__"=pure (some<|.builtin id)/\s.TypeIs v T/\wpAny (model X.prog X.w) X.A (getItem v<|.ref sl) (EP X Z_ Y Q) X.xe s
def gD(r:V->Option Int->Option Int->Hp->VK->Prop)(te:TE)(tl th:TO):TE:=λY H Q=>te Y H λx H1=>tl Y H1 λl H2=>th Y H2 λu H3=>r x l u H3 Q
theorem cw{r:V->Option Int->Option Int->Hp->VK->Prop}(hr:DD X r)(he:PE X e te)(hl:PO X lo tl)(hu:PO X hi th):PE X (.Subscript e (.Slice lo hi none p2) pos) (gD r te tl th):=by
 intro Z_ s Y H Q I h;refine Ol<|cG (he Z_ s Y H _ I h) λv s1 zz=>?_;obtain⟨x,H1,I1,r1,q1⟩:=zz;refine wpAny_Slice<|cG (hl Z_ s1 Y H1 _ I1 q1) λvl s2 zz=>?_;obtain⟨l,H2,I2,pl,q2⟩:=zz;refine cG (hu Z_ s2 Y H2 _ I2 q2) λvu s3 zz=>?_;obtain⟨u,H3,I3,pu,q3⟩:=zz;rw[P6];refine Gy ?_;have I4:Inv X Z_ Y H3 {s3 with heap:=s3.heap.push {cls:=.type "slice",data:=.fields #[vl,vu,.none]}}:=I3.kept (t':=s3.toks) λb ob q=>Gu _ q;obtain⟨T,id,hT,ht,hg⟩:=hr Z_ {s3 with heap:=s3.heap.push {cls:=.type "slice",data:=.fields #[vl,vu,.none]}} Y H3 x v vl vu l u s3.heap.objs.size Q I4 r1 (Q3 ..) pl pu q3;show wpAny (model X.prog X.w) X.A (subscriptTail e (.Slice lo hi none p2) v<|.ref s3.heap.objs.size) (EP X Z_ Y Q) X.xe {s3 with heap:=s3.heap.push {cls:=.type "slice",data:=.fields #[vl,vu,.none]}};exact tail_any (ops:=[.ref s3.heap.objs.size,v]) ht hT hg (by with_unfolding_all rfl)
def qC(xs:List V)(lo hi:Option Int):List V:=(xs.drop<|HT.sIx xs.length 0 lo).take (HT.sIx xs.length xs.length hi-HT.sIx xs.length 0 lo)
theorem oW(xs:List V)(lo hi:Option Int):(qC xs lo hi).length<=xs.length:=by
 unfold qC;rw[Kd,KP];omega
end
def ixN(n:Nat)(i:Int):Option Nat:=if 0<=i then(if i<n then some i.toNat else none)else if -(n:Int)<=i then some (i+n).toNat else none
def atI{O:Type}(xs:List O)(i:Int):Option O:=(ixN xs.length i).bind λj=>xs[j]?
theorem rE{n:Nat}{i:Int}{j:Nat}(h:ixN n i=some j):seqIndex? i n=some j/\j<n/\ -(n:Int)<=i/\i<n:=by
 unfold ixN at h;by_cases h0:0<=i
 ·rw[Z1 h0]at h;by_cases h1:i<n
  ·rw[Z1 h1]at h;have e:i.toNat=j:=Hl h;exact⟨by rw[NX h0 h1,e],by omega,by omega,h1⟩
  ·rw[Z2 h1]at h;cases h
 ·rw[Z2 h0]at h;by_cases h1: -(n:Int)<=i
  ·rw[Z1 h1]at h;have e:(i+n).toNat=j:=Hl h;exact⟨by rw[Nw (by omega) h1,e],by omega,h1,by omega⟩
  ·rw[Z2 h1]at h;cases h
theorem nL{O:Type}{xs:List O}{i:Int}{v:O}(h:atI xs i=some v):∃j,seqIndex? i xs.length=some j/\xs[j]? =some v/\j<xs.length/\ -(xs.length:Int)<=i/\i<xs.length:=by
 unfold atI at h;cases e:ixN xs.length i with
 |none=>rw[e]at h;cases h
 |some j=>
  rw[e]at h;obtain⟨h1,h2,h3,h4⟩:=rE e;exact⟨j,h1,h,h2,h3,h4⟩
def yA(b:Expr):Prop:=∀o i,subscripted b false o i=operate [o,i] (getItem o i)
def BC(X:Cx)(r:R2):Prop:=
 ∀(value slice:Expr)(Z_:List (Addr×Obj))(s:Gw)(Y:St)(H:Hp)(x y:V)(v u:Gv)(Q:VK),Inv X Z_ Y H s->RelV x v->RelV y u->r x y H Q->
  subscripted slice false v u=operate [v,u] (getItem v u)->wpAny (model X.prog X.w) X.A (subscriptTail value slice v u) (EP X Z_ Y Q) X.xe s
def A2(X:Cx)(id:String)(r:V->List V->Hp->VK->Prop):Prop:=
 ∀(Z_:List (Addr×Obj))(s:Gw)(Y:St)(H:Hp)(x:V)(xs:List V)(v:Gv)(us:List Gv)(Q:VK),Inv X Z_ Y H s->RelV x v->Vals xs us->r x xs H Q->
  wpAny (model X.prog X.w) X.A (call (.builtin id) (v::us)) (EP X Z_ Y Q) X.xe s
section
variable{X:Cx}{a b:Expr}{ta tb:TE}{pos:Pos}
theorem av{r:R2}(hr:BC X r)(ha:PE X a ta)(hb:PE X b tb)(hs:yA b):PE X (.Subscript a b pos) (dW r ta tb):=by
 intro Z_ s Y H Q I h;exact Ol<|Av ha hb I h λv u s2 x y H2 I2 rx ry q=>hr a b Z_ s2 Y H2 x y v u Q I2 rx ry q<|hs _ _
def cT(K:Gp):R2:=λx y H Q=>∃p xs i v,x=.ref p/\y=.int i/\SqL K H p xs/\atI xs i=some v/\Q v H
def dt(K:Gp):R2:=λx y H Q=>∃p xs i v,x=.ref p/\y=.int i/\SqT K H p xs/\atI xs i=some v/\Q v H
def dE:R2:=λx y H Q=>∃z i c,x=.str z/\y=.int i/\z.length<=sizeLine/\atI z.cps.toList i=some c/\Q (.str ⟨#[c]⟩) H
theorem yB:BC X (cT X.K):=by
 intro value slice Z_ s Y H x y v u Q I rx ry h hs;obtain⟨p,xs,i,z,rfl,rfl,hq,he,q⟩:=h;cases rx;obtain⟨t,rfl⟩:=ry;obtain⟨its,r,pl,hz⟩:=I.list hq;obtain⟨j,h1,h2,h3,h4,h5⟩:=nL he;obtain⟨w,ew,rw'⟩:=r.get h2;have hl:=r.length;have hn:=jI;have fin:EP X Z_ Y Q w s:=⟨z,H,I,rw',q⟩
 by_cases h0:0<=i
 ·have hj:i.toNat=j:=by
   rw[NX h0 h5]at h1;exact Hl h1
  exact item_listR pl.isList h0 (by omega) (by rw[hj];simpa using ew) fin hs
 ·have hj:(i+(its.toArray.size:Int)).toNat=j:=by
   rw[Nw (by omega) h4]at h1;rw[GG,<-hl];exact Hl h1
  exact Me (x:=w) pl.isList.typeIs Nx.lookup
   (wpAny_getItem_list_neg (Q:=λr s'=>r=w/\EP X Z_ Y Q r s') pl.isList (by omega) (by rw[GG]<;>omega) (by omega) (by rw[hj];simpa using ew) ⟨rfl,fin⟩) hs
theorem AE:BC X (dt X.K):=by
 intro value slice Z_ s Y H x y v u Q I rx ry h hs;obtain⟨p,xs,i,z,rfl,rfl,hq,he,q⟩:=h;cases rx;obtain⟨t,rfl⟩:=ry;obtain⟨its,r,pl,hz⟩:=I.tuple hq;obtain⟨j,h1,h2,h3,h4,h5⟩:=nL he;obtain⟨w,ew,rw'⟩:=r.get h2;have hl:=r.length;have hn:=jI;have fin:EP X Z_ Y Q w s:=⟨z,H,I,rw',q⟩
 exact Me (x:=w) pl.typeIs slot_tuple_getitem.lookup
  (getItem_tuple (j:=j) (Q:=λr s'=>r=w/\EP X Z_ Y Q r s') pl (by omega) (by omega) (by rw[GG,<-hl];exact h1) (by simpa using ew) ⟨rfl,fin⟩) hs
theorem dg:BC X dE:=by
 intro value slice Z_ s Y H x y v u Q I rx ry h hs;obtain⟨z,i,c,rfl,rfl,hz,he,q⟩:=h;obtain⟨t,rfl⟩:=rx;obtain⟨t',rfl⟩:=ry;obtain⟨j,h1,h2,h3,h4,h5⟩:=nL he;have hl:z.cps.toList.length=z.length:=by simp[Q4]
 rw[hl]at h1 h4 h5;have hn:=jI;exact tail_any (Om s z t) slot_str_getitem.lookup (getItem_str (c:=c) (by
  have e1:decide (i< -(2^63:Int))=false:=decide_eq_false (by omega);have e2:decide (i≥2^63)=false:=decide_eq_false (by omega);rw[e1,e2,Bool.or_false]) (by rw[h1];simpa using h2) ⟨.str ⟨#[c]⟩,H,I.tok _,⟨_,rfl⟩,q⟩) hs
theorem qE(its:List Gv)(n j:Nat)(u:Gv):Lx (·.setIfInBounds j u) {cls:=.type "list",data:=.seq its.toArray n}={cls:=.type "list",data:=.seq (its.set j u).toArray n}:=by
 simp[Lx]
theorem Inv.lst{Z_:List (Addr×Obj)}{Y:St}{H:Hp}{s:Gw}{p:Addr}{xs:List V}(I:Inv X Z_ Y H s)(h:H p=some (.lst xs)):
  ∃(its:List Gv)(n:Nat),Vals xs its/\s.heap.get? p=some {cls:=.type "list",data:=.seq its.toArray n}/\xs.length<=sizeLine:=by
 obtain⟨z,its,n,r,e⟩:=I.hok p _ h;exact⟨its,n,r,e,z⟩
theorem Inv.lstUpd{Z_:List (Addr×Obj)}{Y:St}{H:Hp}{s:Gw}{p:Addr}{xs ys:List V}{its its':List Gv}{n n':Nat}{f:Obj->Obj}(I:Inv X Z_ Y H s)(h:H p=some (.lst xs))
  (ho:s.heap.get? p=some {cls:=.type "list",data:=.seq its.toArray n}) (hf:f {cls:=.type "list",data:=.seq its.toArray n}={cls:=.type "list",data:=.seq its'.toArray n'}) (r:Vals ys its') (hz:ys.length<=sizeLine) (t:Nat):
  Inv X Z_ Y (cN H p<|.lst ys) {s with heap:=s.heap.update p f,toks:=t}:=by
 have e:(s.heap.update p f).get? p=some {cls:=.type "list",data:=.seq its'.toArray n'}:=by
  rw[HS f ho (by rw[hf]<;>rfl),hf]
 refine I.write (x:=p) (e:=p) (by rw[h];trivial) (.inl rfl) (λb u hb q=>(Hn _ _<|HW hb).trans q) ⟨_,e⟩ ?_;exact⟨hz,its',n',r,e⟩
def rF:V->V->V->Hp->(Hp->Prop)->Prop:=λo i v H Q=>∃p xs k j,o=.ref p/\i=.int k/\H p=some (.lst xs)/\ixN xs.length k=some j/\Q (cN H p<|.lst<|xs.set j v)
theorem oX:BV X rF:=by
 intro Z_ s Y H o i v ov iv u Q I ro ri rv h;obtain⟨p,xs,k,j,rfl,rfl,hp,hj,q⟩:=h;cases ro;obtain⟨t,rfl⟩:=ri;obtain⟨its,n,r,ho,hz⟩:=I.lst hp;obtain⟨h1,h2,h3,h4⟩:=rE hj;have hl:=r.length;have hn:=jI;have I':Inv X Z_ Y (cN H p<|.lst<|xs.set j v) {s with heap:=s.heap.update p (Lx (·.setIfInBounds j u))}:=
  I.lstUpd hp ho (qE its n j u) (r.set rv j) (by rw[Jb];exact hz) s.toks
 by_cases h0:0<=k
 ·have hk:k.toNat=j:=by
   rw[NX h0 h4]at h1;exact Hl h1
  exact PySem.W.ki_setAt ho h0 (by omega) (by rw[GG,<-hl];exact h4) (by rw[hk];exact⟨_,I',q⟩)
 ·have hk:(k+(its.toArray.size:Int)).toNat=j:=by
   rw[Nw (by omega) h3]at h1;rw[GG,<-hl];exact Hl h1
  exact PySem.W.ki_setBack ho (by omega) (by rw[GG,<-hl];exact h3) (by omega) (by rw[hk];exact⟨_,I',q⟩)
theorem nM(lo hi:Option Int)(n:Nat):(sliceBounds lo hi none n).1=((HT.sIx n 0 lo:Nat):Int)/\(sliceBounds lo hi none n).2.1=((HT.sIx n n hi:Nat):Int)/\(sliceBounds lo hi none n).2.2=1:=by
 refine⟨?_,?_,rfl⟩
 ·cases lo with
  |none=>simp[sliceBounds,HT.sIx]
  |some i=>
   simp only[sliceBounds,HT.sIx,NM,show(1:Int)>0 by decide,if_true];by_cases h:i<0;·simp only[h,if_true]<;>omega
   ·simp only[h,if_false]<;>omega
 ·cases hi with
  |none=>simp[sliceBounds,HT.sIx]
  |some i=>
   simp only[sliceBounds,HT.sIx,NM,show(1:Int)>0 by decide,if_true];by_cases h:i<0;·simp only[h,if_true]<;>omega
   ·simp only[h,if_false]<;>omega
theorem m8(its:List Gv)(lo hi:Option Int):slicePick its.toArray lo hi none=((its.drop<|HT.sIx its.length 0 lo).take (HT.sIx its.length its.length hi-HT.sIx its.length 0 lo)).toArray:=by
 obtain⟨h1,h2,h3⟩:=nM lo hi its.toArray.size;unfold slicePick;rw[h1,h2,h3];simp only[ML,pick_run,GG]<;>rfl
def dw(K:Gp):V->Option Int->Option Int->Hp->VK->Prop:=λx lo hi H Q=>∃a xs,x=.ref a/\SqL K H a xs/\∀p,H p=none->Q (.ref p) (cN H p<|.lst<|qC xs lo hi)
theorem yC:DD X (dw X.K):=by
 intro Z_ s Y H x v vl vu lo hi sl Q I rx hs pl pu h;obtain⟨a,xs,rfl,hx,q⟩:=h;cases rx;obtain⟨its,r,ht,hz⟩:=I.list hx;have hlen:=r.length;refine⟨"list",_,Nx.lookup,ht.isList.typeIs,?_⟩;refine wpAny_getItem_list_slice ht.isList hs pl pu .none (by simp) ?_ (by rw[GG]<;>omega);rw[m8,<-hlen];refine⟨.ref s.heap.objs.size,_,I.laid (t':=s.toks) (o:=.lst<|qC xs lo hi) (λb ob q=>Gu _ q) (GO _) ?_,rfl,q _<|I.hok.fresh<|GO _⟩;exact⟨HB (oW xs lo hi) hz,_,0,(r.drop<|HT.sIx xs.length 0 lo).take (HT.sIx xs.length xs.length hi-HT.sIx xs.length 0 lo),GA _ rfl⟩
theorem nN:ei X (.type "list") (λxs H Q=>∃p ys,xs=[.ref p]/\(SqL X.K H p ys\/SqT X.K H p ys)/\∀l,H l=none->Q (.ref l) (cN H l<|.lst ys)):=by
 intro Z_ s Y H xs us Q I r h;obtain⟨p,ys,rfl,hq,q⟩:=h;obtain⟨u,rfl,rx⟩:=fx r;cases rx;have fin:∀(its:List Gv),Vals ys its->ys.length<=sizeLine->∀(h':Heap)(c':Nat),(∀b o',s.heap.get? b=some o'->h'.get? b=some o')->
   h'.get? s.heap.objs.size=some {cls:=.type "list",dict:=none,data:=.seq its.toArray c',slots:= #[]}->EP X Z_ Y Q (.ref s.heap.objs.size) {s with heap:=h'}:=λits r' hz h' c' kp e=>
  ⟨.ref s.heap.objs.size,_,I.laid (t':=s.toks) kp (GO _) (show ObjOk X.prog X.w _ h' _ (.lst ys)from⟨hz,its,c',r',e⟩),rfl,q _<|I.hok.fresh<|GO _⟩
 rcases hq with hq|hq
 ·obtain⟨its,r',pl,hz⟩:=I.list hq;have hlen:=r'.length;obtain⟨o,ho,hc,n,hd⟩:=pl.isList;exact P7 p (.inl rfl) ho hc hd (λh' c' kp e=>fin its r' hz h' c' kp e) (by simp only[GG]<;>omega)
 ·obtain⟨its,r',pl,hz⟩:=I.tuple hq;have hlen:=r'.length;obtain⟨o,ho,hc,n,hd⟩:=pl;exact P7 p (.inr rfl) ho hc hd (λh' c' kp e=>fin its r' hz h' c' kp e) (by simp only[GG]<;>omega)
def BZ(K:Gp)(T:String)(x:V)(H:Hp):Prop:=match x with
 | .str _=>T="str"
 | .int _=>T="int"
 | .ref p=>(T="list" /\∃xs,SqL K H p xs)\/(T="tuple" /\((∃o,K.lookup p=some o/\o.cls=.type "tuple" /\o.dict=none)\/∃xs,SqT K H p xs))\/
   (T="dict"/\((∃kvs,H p=some (.dK kvs))\/∃kvs,H p=some (.dT kvs)))\/(T="set"/\∃S n,H p=some (.set S n))
 |_=>False
theorem vz{Z_:List (Addr×Obj)}{Y:St}{H:Hp}{s:Gw}{T:String}{x:V}{v:Gv}(I:Inv X Z_ Y H s)(r:RelV x v)(ty:BZ X.K T x H):
  s.TypeIs v T/\∀a,v=.ref a->∃ob,s.heap.get? a=some ob/\ob.dict=none:=by
 cases x with
 |str z=>
  obtain⟨t,rfl⟩:=r;cases (show T="str" from ty);exact⟨Om s z t,λ_ e=>nomatch e⟩
 |int i=>
  obtain⟨t,rfl⟩:=r;cases (show T="int" from ty);exact⟨Oo s i t,λ_ e=>nomatch e⟩
 |ref p=>
  cases r;rcases ty with⟨rfl,xs,hq⟩|⟨rfl,⟨o,hk,hc,hd⟩|⟨xs,hq⟩⟩|⟨rfl,hk⟩|⟨rfl,S,n,hk⟩
  ·obtain⟨its,_,pl,_⟩:=I.list hq;refine⟨pl.isList.typeIs,λa e=>?_⟩;cases e;obtain⟨o,n,e,c,hd,_⟩:=pl;exact⟨o,e,hd⟩
  ·refine⟨⟨o,I.kIn p o hk,hc⟩,λa e=>?_⟩;cases e;exact⟨o,I.kIn _ o hk,hd⟩
  ·obtain⟨o,e1,c1,d1⟩:∃o,s.heap.get? p=some o/\o.cls=.type "tuple"/\o.dict=none:=by
    rcases hq with hq|⟨o,its,n,hk,hc,_⟩
    ·obtain⟨_,_,_,o,e1,⟨c1,d1⟩,_⟩:=hq.ok I.hok;exact⟨o,e1,c1,d1⟩
    ·exact⟨o,I.kIn p o hk,hc.1,hc.2⟩
   refine⟨⟨o,e1,c1⟩,λa e=>?_⟩;cases e;exact⟨o,e1,d1⟩
  ·have z:∃o,s.heap.get? p=some o/\o.ExactDict:=by
    rcases hk with⟨kvs,hk⟩|⟨kvs,hk⟩
    ·obtain⟨_,_,_,_,o,_,_,e,ex,_⟩:=I.hok p _ hk;exact⟨o,e,ex⟩
    ·obtain⟨_,_,_,_,o,_,_,e,ex,_⟩:=I.hok p _ hk;exact⟨o,e,ex⟩
   obtain⟨o,e,ex⟩:=z;refine⟨⟨o,e,ex.1⟩,λa e2=>?_⟩;cases e2;exact⟨o,e,ex.2.1⟩
  ·obtain⟨o,_,_,_,e,ex,_⟩:=I.hok p _ hk;refine⟨⟨o,e,ex.1⟩,λa e2=>?_⟩;cases e2;exact⟨o,e,ex.2.1⟩
 |_=>exact Ik ty
def dm(K:Gp)(T:String)(r:V->List V->Hp->VK->Prop)(to:TE):TE:=λY H Q=>to Y H λx H1=>BZ K T x H1/\r x [] H1 Q
def fy(K:Gp)(T:String)(r:V->List V->Hp->VK->Prop)(to:TE)(t:TA):TE:=λY H Q=>to Y H λx H1=>BZ K T x H1/\t Y H1 λxs H2=>r x xs H2 Q
variable{o e:Expr}{es:List Expr}{to:TE}{t:TA}{name:Str}{Z7 Z8:Pos}{T id:String}{r:V->List V->Hp->VK->Prop}
theorem AF(pa:N8 T)(slot:Slot T name id)(hty:typeOf (.builtin id)=pure (.type "method_descriptor"))(hm:A2 X id r)(ho:PE X o to)
  (hbase:attributeBase o name X.env (eval o X.env)=eval o X.env:=by rfl) (hline:(Z7.endLine==Z8.line)=true:=by rfl):PE X (.Call (.Attribute o name Z7) [] [] Z8) (dm X.K T r to):=by
 intro Z_ s Y H Q I h;refine Kq hbase hline<|cG (ho Z_ s Y H _ I h) λv s1 zz=>?_;obtain⟨x,H1,I1,r1,ty,q1⟩:=zz;obtain⟨h1,h2⟩:=vz I1 r1 ty;exact⟨T,id,pa,slot,hty,h1,h2,Ji rfl<|Ll<|hm Z_ s1 Y H1 x [] v [] Q I1 r1 .nil q1⟩
theorem C0(pa:N8 T)(slot:Slot T name id)(hty:typeOf (.builtin id)=pure (.type "method_descriptor"))(hm:A2 X id r)(ho:PE X o to)(ha:PA X (e::es) t)
  (hbase:attributeBase o name X.env (eval o X.env)=eval o X.env:=by rfl)
  (hfew:((backTo Z8<|starEach (e::es) X.env).all (λx=> !x.1) && (backToKw Z8<|keywordEach [] X.env).all (λx=>x.1.isSome)
   &&decide ((e::es).length+([]:List Mf).length+(if([]:List Mf).isEmpty then 0 else 1)<30))=true:=by rfl)
  (hline:(Z7.endLine==Z8.line)=true:=by rfl) (hs:starEach (e::es) X.env=(false,eval e X.env)::starEach es X.env:=by rfl) (hplain:(backTo Z8<|starEach es X.env).any (·.1)=false:=by rfl):
  PE X (.Call (.Attribute o name Z7) (e::es) [] Z8) (fy X.K T r to t):=by
 intro Z_ s Y H Q I h;refine wpAny_Call_method_late hbase hfew hline rfl<|cG (ho Z_ s Y H _ I h) λv s1 zz=>?_;obtain⟨x,H1,I1,r1,ty,q1⟩:=zz;obtain⟨h1,h2⟩:=vz I1 r1 ty;refine⟨T,id,pa,slot,hty,h1,h2,?_⟩;have hA:=ha Z8 Z_ s1 Y H1 _ I1 q1;rw[hs]at hA ⊢;refine Ji (by show(false||(backTo Z8<|starEach es X.env).any (·.1))=false;rw[hplain]<;>rfl)<|L7 ?_;refine cG hA λus s2 zz=>?_;obtain⟨vs,H2,I2,r2,q2⟩:=zz;exact hm Z_ s2 Y H2 x vs v us Q I2 r1 r2 q2
end
def DE(X:Cx)(id:String)(r:V->List V->Hp->VK->Prop):Prop:=
 ∀(Z_:List (Addr×Obj))(s:Gw)(Y:St)(H:Hp)(x:V)(xs:List V)(v:Gv)(us:List Gv)(Q:VK),Inv X Z_ Y H s->RelV x v->Vals xs us->r x xs H Q->
  wpAny (model X.prog X.w) X.A (call (.builtin id) (v::us)) (EP X Z_ Y Q) X.xe s
theorem Vals.one:∀{x:V}{us:List Gv},Vals [x] us->∃u,us=[u]/\RelV x u
 |_,_,.cons r .nil=>⟨_,rfl,r⟩
theorem Vals.zero:∀{us:List Gv},Vals [] us->us=[]
 |_,.nil=>rfl
theorem Vals.dropLast{xs:List V}{us:List Gv}(h:Vals xs us):Vals xs.dropLast us.dropLast:=by
 induction h with
 |nil=>exact .nil
 |cons r t ih=>
  cases t with
  |nil=>exact .nil
  |cons q t'=>exact .cons r ih
theorem Vals.rep{xs:List V}{us:List Gv}(h:Vals xs us):∀k:Nat,Vals (GS k xs).flatten (GS k us).flatten
 |0=>.nil
 |k+1=>by
  rw[Ig,Ig,Ij,Ij];exact Vals.append h<|Vals.rep h k
theorem qF{O:Type}(l:List O):l.eraseIdx (l.length-1)=l.dropLast:=by
 induction l with
 |nil=>rfl
 |cons a r ih=>
  cases r with
  |nil=>rfl
  |cons b r=>
   have e:(a::b::r).length-1=((b::r).length-1)+1:=by
    have h1:(a::b::r).length=r.length+2:=rfl;have h2:(b::r).length=r.length+1:=rfl;omega
   rw[e,List.eraseIdx_cons_succ,ih]
   all_goals rfl
theorem mS(its:List Gv):∀(k:Nat)(acc:List Gv),
  Oq (λx1 x2=>x1++x2) acc.toArray (GS k its.toArray)=(acc++(GS k its).flatten).toArray
 |0,acc=>by simp
 |k+1,acc=>by
  have e:acc.toArray++its.toArray=(acc++its).toArray:=by simp
  have e2:(acc++its)++(GS k its).flatten=acc++(GS (k+1) its).flatten:=by
   rw[Ig,Ij,J8]
  rw[<-e2,<-mS its k (acc++its),<-e,Ig,JQ]
section
variable{X:Cx}{Z_:List (Addr×Obj)}{Y:St}{H:Hp}{s:Gw}{l b:Addr}{xs ys zs:List V}
theorem Inv.lset{its its':List Gv}{n:Nat}{f:Array Gv->Array Gv}{t':Nat}(I:Inv X Z_ Y H s)(hH:H l=some (.lst xs))
  (e:s.heap.get? l=some {cls:=.type "list",data:=.seq its.toArray n}) (hf:f its.toArray=its'.toArray) (hv:Vals ys its') (hz:ys.length<=sizeLine):
  Inv X Z_ Y (cN H l<|.lst ys) {s with heap:=s.heap.update l<|Lx f,toks:=t'}:=by
 have q:=PySem.IsL.update e f;rw[hf]at q;refine I.write (x:=l) (e:=l) (by rw[hH];exact trivial) (.inl rfl) (λb' u hb hu=>(Hn s.heap (Lx f)<|HW hb).trans hu) ⟨_,q⟩ ?_;exact⟨hz,its',_,hv,q⟩
theorem Inv.lnew{its:List Gv}{t':Nat}(I:Inv X Z_ Y H s)(hv:Vals ys its)(hz:ys.length<=sizeLine):
  Inv X Z_ Y (cN H s.heap.objs.size<|.lst ys) {s with heap:=s.heap.push {cls:=.type "list",data:=.seq its.toArray},toks:=t'}:=
 I.laid (λ_ _ q=>Gu _ q) (GO _) ⟨hz,its,0,hv,GA _ rfl⟩
theorem Inv.fresh(I:Inv X Z_ Y H s):H s.heap.objs.size=none:=I.hok.fresh<|GO _
theorem Inv.lstM(I:Inv X Z_ Y H s)(hH:H l=some (.lst xs)):xs.length<=sizeLine/\∃(its:List Gv)(n:Nat),Vals xs its/\xs.length=its.length/\s.heap.get? l=some {cls:=.type "list",data:=.seq its.toArray n}:=by
 obtain⟨z,its,n,r,e⟩:=I.hok l _ hH;exact⟨z,its,n,r,r.length,e⟩
theorem oY{n:Nat}(h:n<=sizeLine):Jy n=false:=by
 unfold Jy;exact decide_eq_false (by omega)
end
section
variable{X:Cx}
def aK:V->List V->Hp->VK->Prop:=λx vs H Q=>∃l xs y,x=.ref l/\vs=[y]/\H l=some (.lst xs)/\xs.length<sizeLine/\Q .non (cN H l<|.lst<|xs++[y])
theorem tH:DE X "list.append" aK:=by
 intro Z_ s Y H x vs v us Q I rx rv h;obtain⟨l,xs,y,rfl,rfl,hH,hz,q⟩:=h;cases rx;obtain⟨u,rfl,ru⟩:=rv.one;obtain⟨z,its,n,r,hl,e⟩:=I.lstM hH;refine Ly Mz ⟨_,e,rfl⟩ F.entry_list_append (F.args_list_append_2 _ _) (PySem.list_append l its.toArray n u (by rw[GG];omega)) ⟨e,?_⟩;refine⟨.non,_,I.lset (its':=its++[u]) hH e (by simp) (r.append<|.cons ru .nil) ?_,rfl,q⟩;rw[GI,Jq];omega
def nO:V->List V->Hp->VK->Prop:=λx vs H Q=>∃l b xs zs,x=.ref l/\vs=[.ref b]/\H l=some (.lst xs)/\H b=some (.lst zs)/\xs.length+zs.length<=sizeLine/\Q .non (cN H l<|.lst<|xs++zs)
theorem ir:DE X "list.extend" nO:=by
 intro Z_ s Y H x vs v us Q I rx rv h;obtain⟨l,b,xs,zs,rfl,rfl,hH,hB,hz,q⟩:=h;cases rx;obtain⟨u,rfl,ru⟩:=rv.one;cases ru;obtain⟨z,its,n,r,hl,e⟩:=I.lstM hH;obtain⟨z2,its2,n2,r2,hl2,e2⟩:=I.lstM hB;have hsz:its.toArray.size+its2.toArray.size<=sizeLine:=by rw[GG,GG];omega
 have hlong:¬(!its.toArray.isEmpty&&Jy (its.toArray.size+its2.toArray.size))=true:=by
  rw[oY hsz,Ot];exact GN
 refine Ly Jc ⟨_,e,rfl⟩ F.entry_list_extend (F.args_list_extend_2 _ _)
  (AutoSeq1.list_extend_list_list_0 l its.toArray n b its2.toArray n2 hlong (by rw[GG];omega) (by omega)) ⟨e,e2,?_⟩
 refine⟨.non,_,I.lset (its':=its++its2) hH e (by simp) (r.append r2) ?_,rfl,q⟩;rw[GI];omega
def AG:V->List V->Hp->VK->Prop:=λx vs H Q=>∃l xs y,x=.ref l/\vs=[]/\H l=some (.lst xs)/\xs[xs.length-1]? =some y/\Q y (cN H l<|.lst xs.dropLast)
theorem nP:DE X "list.pop" AG:=by
 intro Z_ s Y H x vs v us Q I rx rv h;obtain⟨l,xs,y,rfl,rfl,hH,hy,q⟩:=h;cases rx;have hus:=rv.zero;subst hus;obtain⟨z,its,n,r,hl,e⟩:=I.lstM hH;obtain⟨u,hu,ru⟩:=r.get hy;have hy':its.toArray[its.toArray.size-1]? =some u:=by
  show its.toArray[its.length-1]? =some u;rw[<-KH,<-hl];exact hu
 refine Ly Jw ⟨_,e,rfl⟩ F.entry_list_pop (F.args_list_pop_1 _) (MeetsSeq.list_pop_last l its.toArray n u hy' (by rw[GG];omega)) ⟨e,?_⟩;refine⟨y,_,I.lset (its':=its.dropLast) hH e ?_ r.dropLast ?_,ru,q⟩
 ·show its.toArray.eraseIdxIfInBounds (its.toArray.size- 1)=its.dropLast.toArray;rw[GG,List.eraseIdxIfInBounds_toArray,qF]
 ·rw[List.length_dropLast];omega
def bw:V->List V->Hp->VK->Prop:=λx vs H Q=>∃l xs,x=.ref l/\vs=[]/\H l=some (.lst xs)/\Q .non (cN H l<|.lst [])
theorem oZ:DE X "list.clear" bw:=by
 intro Z_ s Y H x vs v us Q I rx rv h;obtain⟨l,xs,rfl,rfl,hH,q⟩:=h;cases rx;have hus:=rv.zero;subst hus;obtain⟨z,its,n,r,hl,e⟩:=I.lstM hH;refine Ly KI ⟨_,e,rfl⟩ F.entry_list_clear (F.args_list_clear_1 _) (AutoSeq1.list_clear_list_0 l its.toArray n (by rw[GG];omega)) ⟨e,?_⟩;exact⟨.non,_,I.lset (its':=[]) (ys:=[]) hH e rfl .nil<|Kp _,rfl,q⟩
def dF:R2:=λx y H Q=>∃l b xs zs,x=.ref l/\y=.ref b/\H l=some (.lst xs)/\H b=some (.lst zs)/\xs.length+zs.length<=sizeLine/\∀p,H p=none->Q (.ref p) (cN H p<|.lst<|xs++zs)
theorem gX:OpR X (binaryOp .Add) dF:=by
 intro Z_ s Y H x y v u Q I rx ry h;obtain⟨l,b,xs,zs,rfl,rfl,hH,hB,hz,q⟩:=h;cases rx;cases ry;obtain⟨z,its,n,r,hl,e⟩:=I.lstM hH;obtain⟨z2,its2,n2,r2,hl2,e2⟩:=I.lstM hB;refine PySem.P.add_list e e2 ?_ (by rw[GG,GG];omega);have ea:its.toArray++its2.toArray=(its++its2).toArray:=by simp
 rw[ea];exact⟨.ref _,_,I.lnew (t':=s.toks) (r.append r2) (by rw[GI];omega),rfl,q _ I.fresh⟩
def C1:R2:=λx y H Q=>∃l k xs,x=.ref l/\y=.int k/\H l=some (.lst xs)/\ -(2^63)<=k/\k<2^63/\xs.length*k.toNat<=sizeLine/\
 ∀p,H p=none->Q (.ref p) (cN H p<|.lst (GS k.toNat xs).flatten)
theorem yD{O:Type}(xs:List O)(k:Nat):(GS k xs).flatten.length=k*xs.length:=by
 induction k with
 |zero=>simp
 |succ k ih=>rw[Ig,Ij,GI,ih,Nat.succ_mul,Nat.add_comm]
theorem vA:OpR X (binaryOp .Mult) C1:=by
 intro Z_ s Y H x y v u Q I rx ry h;obtain⟨l,k,xs,rfl,rfl,hH,h1,h2,hz,q⟩:=h;cases rx;obtain⟨t,rfl⟩:=ry;obtain⟨z,its,n,r,hl,e⟩:=I.lstM hH;have hlen:its.toArray.size*k.toNat<=sizeLine:=by rw[GG,<-hl];exact hz
 have hcap:¬its.toArray.size*k.toNat>(2^63-1)/8:=by
  have:(sizeLine:Nat)<=(2^63-1)/8:=by decide
  omega
 have hfit:¬(!Builtin.List.listFitsIndex k)=true:=by
  rw[fitsIndex_both h1 h2];exact GN
 have hlong:¬Jy (its.toArray.size*k.toNat)=true:=by
  rw[oY hlen];exact GN
 have hnew:Oq (λx1 x2=>x1++x2) #[] (GS (if its.toArray.isEmpty=true then 0 else k.toNat) its.toArray)=(GS k.toNat its).flatten.toArray:=by
  have f0:∀m:Nat,Oq (λx1 x2=>x1++x2) #[] (GS m its.toArray)=(GS m its).flatten.toArray:=λm=>by
   have:=mS its m [];rw[Kh]at this;exact this
  rw[f0];cases its with
  |nil=>simp
  |cons a r'=>rw[Z2 (by simp)]
 refine wpAny_binaryOp_repeat_ref (T:="list") (U:="int") ⋯ ⟨_,e,rfl⟩ (λs'=>Oo s' k t) noFill_list_mul F.fills_int_mul O9 repeat_list F.slot_int_index.lookup
  (Ly O9 (Oo s k t) F.entry_int_rmul (F.args_int_rmul_2 _ _) (int___rmul___int_list k t l its.toArray n)
   ⟨e,rfl,⟨_,e,rfl⟩,Ly F.slot_list_mul ⟨_,e,rfl⟩ F.entry_list_mul (F.args_list_mul_2 _ _) (AutoListH.list___mul___list_int_3 l its.toArray n k t hfit hcap hlong) ⟨e,?_⟩⟩)
 rw[hnew];exact⟨.ref _,_,I.lnew (t':=s.toks) (r.rep k.toNat) (by rw[yD,Nat.mul_comm];exact hz),rfl,q _ I.fresh⟩
end
section
variable{κ:Type}[DecidableEq κ]
def fq(kvs:List (κ×V))(k:κ):Option V:=(kvs.find? λkv=>decide<|kv.1=k).map (·.2)
def iM(kvs:List (κ×V))(k:κ)(v:V):List (κ×V):=
 if(kvs.any λkv=>decide<|kv.1=k)=true then kvs.map (λkv=>if kv.1=k then(kv.1,v)else kv)else kvs++[(k,v)]
theorem gY{p:κ×V}{r:List (κ×V)}{k:κ}(e:p.1=k):fq (p::r) k=some p.2:=by simp[fq,JR,e]
theorem gZ{p:κ×V}{r:List (κ×V)}{k:κ}(e:¬p.1=k):fq (p::r) k=fq r k:=by simp[fq,JR,e]
theorem p4(k:κ):∀kvs:List (κ×V),(kvs.any λkv=>decide<|kv.1=k)=(fq kvs k).isSome
 | []=>rfl
 |p::r=>by
  rw[L5];by_cases e:p.1=k;·simp only[gY e,decide_eq_true e,Bool.true_or,N9]
  ·rw[gZ e,decide_eq_false e,Bool.false_or];exact p4 k r
theorem ke(kvs:List (κ×V))(k:κ)(v:V):(iM kvs k v).length<=kvs.length+1:=by
 unfold iM;split;·rw[GR];omega
 ·rw[GI,Hc,II];omega
theorem RelO.isSome_eq{o:Option V}{u:Option Gv}(r:RelO o u):o.isSome=u.isSome:=by
 cases o with
 |none=>cases u with
  |none=>rfl
  |some _=>exact(show False from r).elim
 |some _=>cases u with
  |none=>exact(show False from r).elim
  |some _=>rfl
theorem RelO.getD{o:Option V}{u:Option Gv}{d:V}{d':Gv}(r:RelO o u)(rd:RelV d d'):RelV (o.getD d) (u.getD d'):=by
 cases o with
 |none=>cases u with
  |none=>exact rd
  |some _=>exact(show False from r).elim
 |some _=>cases u with
  |none=>exact(show False from r).elim
  |some _=>exact r
theorem KV.val{kvs:List (κ×V)}{vs:List (κ×Gv)}(r:KV kvs vs)(k:κ):RelO (fq kvs k) (valueAt vs k):=by
 unfold KV at r
 induction r with
 |nil=>exact Jm
 | @cons p q ps qs h t ih=>
  obtain⟨h1,h2⟩:=h;by_cases e:p.1=k
  ·have e':q.1=k:=h1.symm.trans e;have b:valueAt (q::qs) k=some q.2:=by simp[valueAt,JR,e']
   rw[gY e,b];exact h2
  ·have e':¬q.1=k:=λz=>e<|h1.trans z;have b:valueAt (q::qs) k=valueAt qs k:=by simp[valueAt,JR,e']
   rw[gZ e,b];exact ih
theorem KV.any{kvs:List (κ×V)}{vs:List (κ×Gv)}(r:KV kvs vs)(k:κ):(kvs.any λkv=>decide<|kv.1=k)=vs.any λkv=>decide (kv.1=k):=by
 unfold KV at r
 induction r with
 |nil=>rfl
 |cons h t ih=>rw[L5,L5,ih,h.1]
theorem KV.repl{kvs:List (κ×V)}{vs:List (κ×Gv)}(r:KV kvs vs)(k:κ){y:V}{u:Gv}(ry:RelV y u):
  KV (kvs.map λkv=>if kv.1=k then(kv.1,y)else kv) (vs.map λkv=>if kv.1=k then(kv.1,u)else kv):=by
 unfold KV at r ⊢
 induction r with
 |nil=>exact .nil
 | @cons p q ps qs h t ih=>
  rw[Hs,Hs];refine .cons ?_ ih;obtain⟨h1,h2⟩:=h;by_cases e:p.1=k;·rw[Z1 e,Z1<|h1.symm.trans e];exact⟨h1,ry⟩
  ·rw[Z2 e,Z2<|λz=>e<|h1.trans z];exact⟨h1,h2⟩
theorem KV.put{kvs:List (κ×V)}{vs:List (κ×Gv)}(r:KV kvs vs)(k:κ){y:V}{u:Gv}(ry:RelV y u):KV (iM kvs k y) (stored vs k u):=by
 unfold iM stored;rw[r.any k];by_cases e:(vs.any λkv=>decide<|kv.1=k)=true;·rw[Z1 e,Z1 e];exact r.repl k ry
 ·rw[Z2 e,Z2 e];exact Paired.snoc r ⟨rfl,ry⟩
theorem KV.length{kvs:List (κ×V)}{vs:List (κ×Gv)}(r:KV kvs vs):kvs.length=vs.length:=Paired.length r
end
theorem lj{P:GQ}{w:Ha}{k:Key}{u:Gv}(r:RelV (kV k) u):(bK P w).is k u=true:=by
 cases k with
 |inl i=>obtain⟨t,e⟩:=(show ∃t,u=Lp i t from r);subst e;exact oM P w i t
 |inr x=>obtain⟨t,e⟩:=(show ∃t,u=MQ x t from r);subst e;exact oN P w x t
theorem mT{P:GQ}{w:Ha}:∀{ks:List Key}{us:List Gv},Vals (ks.map kV) us->ItemsAre (bK P w) ks us
 | [],_,r=>by rw[Kx]at r;cases r;exact .nil
 |k::ks,_,r=>by
  rw[Hs]at r;cases r with
  |cons h t=>exact .cons (lj h)<|mT t
abbrev KT(H:Hp):List (List Key×V)->List (List Key×Addr×Gv)->Prop:=Paired λp q=>p.1=q.1/\H q.2.1=some (.tup<|p.1.map kV)/\RelV p.2 q.2.2
theorem KT.val{H:Hp}{kvs:List (List Key×V)}{xs:List (List Key×Addr×Gv)}(r:KT H kvs xs)(k:List Key):RelO (fq kvs k) ((atKey xs k).map (·.2)):=by
 induction r with
 |nil=>exact Jm
 | @cons p q ps qs h t ih=>
  obtain⟨h1,_,h2⟩:=h;by_cases e:p.1=k
  ·have e':q.1=k:=h1.symm.trans e;have b:atKey (q::qs) k=some q.2:=by simp[atKey,JR,e']
   rw[gY e,b];exact h2
  ·have e':¬q.1=k:=λz=>e<|h1.trans z;have b:atKey (q::qs) k=atKey qs k:=by simp[atKey,JR,e']
   rw[gZ e,b];exact ih
theorem KT.repl{H:Hp}{kvs:List (List Key×V)}{xs:List (List Key×Addr×Gv)}(r:KT H kvs xs)(k:List Key){y:V}{u:Gv}(ry:RelV y u):
  KT H (kvs.map λkv=>if kv.1=k then(kv.1,y)else kv) (xs.map<|putAt k u):=by
 induction r with
 |nil=>exact .nil
 | @cons p q ps qs h t ih=>
  rw[Hs,Hs];refine .cons ?_ ih;obtain⟨h1,h2,h3⟩:=h;unfold putAt;by_cases e:p.1=k;·rw[Z1 e,Z1<|h1.symm.trans e];exact⟨h1,h2,ry⟩
  ·rw[Z2 e,Z2<|λz=>e<|h1.trans z];exact⟨h1,h2,h3⟩
theorem KT.put{H:Hp}{kvs:List (List Key×V)}{xs:List (List Key×Addr×Gv)}(r:KT H kvs xs)(k:List Key){b:Addr}{y:V}{u:Gv}(hb:H b=some (.tup<|k.map kV))(ry:RelV y u):
  KT H (iM kvs k y) (storedH xs k b u):=by
 have e:(kvs.any λkv=>decide<|kv.1=k)=(atKey xs k).isSome:=by
  rw[p4,(r.val k).isSome_eq,LP]
 unfold iM storedH;rw[e];by_cases q:(atKey xs k).isSome=true;·rw[Z1 q,Z1 q];exact r.repl k ry
 ·rw[Z2 q,Z2 q];exact Paired.snoc r ⟨rfl,hb,ry⟩
theorem KT.keeps{H H':Hp}{kvs:List (List Key×V)}{xs:List (List Key×Addr×Gv)}(r:KT H kvs xs)(ht:∀b ys,H b=some (.tup ys)->H' b=some (.tup ys)):KT H' kvs xs:=
 Paired.mapP r λ_ _ z=>⟨z.1,ht _ _ z.2.1,z.2.2⟩
section
variable{P:GQ}{w:Ha}{H:Hp}{h:Heap}{a:Addr}
theorem A3{u:HO}(ok:HOk P w H h)(e:Rd H a u):ObjOk P w H h a u:=e.ok ok
theorem jc{kvs:List (Key×V)}(ok:HOk P w H h)(e:Rd H a (.dK kvs)):kvs.length<=sizeLine/\(a==sysModules)=false/\∃vs,KV kvs vs/\h.DictOf (bK P w) a vs:=
 show ObjOk P w H h a (.dK kvs)from A3 ok e
theorem A4{kvs:List (Key×V)}(ok:HOk P w H h)(e:H a=some (.dK kvs)):kvs.length<=sizeLine/\(a==sysModules)=false/\∃vs,KV kvs vs/\h.DictOf (bK P w) a vs:=jc ok<|.inl e
theorem jL{ks:List Key}(ok:HOk P w H h)(e:H a=some (.tup<|ks.map kV)):(tupleKind<|bK P w).is h ks a:=by
 obtain⟨_,its,r,o,h1,⟨h2,_⟩,n,h3⟩:=(show ObjOk P w H h a (.tup<|ks.map kV)from ok a _ e)
 exact⟨o,its.toArray,n,h1,h2,h3,by simpa using mT r⟩
theorem ll{kvs:List (List Key×V)}(ok:HOk P w H h)(e:Rd H a (.dT kvs)):kvs.length<=sizeLine/\(a==sysModules)=false/\
  ∃xs,KT H kvs xs/\h.DictOfH (tupleKind<|bK P w) a xs:=by
 obtain⟨z,y,xs,r,o,es,ep,h1,h2,h3,h4,h5⟩:=(show ObjOk P w H h a (.dT kvs)from A3 ok e)
 refine⟨z,y,xs,r,o,es,ep,h1,h2,h3,h4,λx hx=>?_,h5⟩;have all:∀{l:List (List Key×V)}{m:List (List Key×Addr×Gv)},KT H l m->∀x∈m,(tupleKind<|bK P w).is h x.1 x.2.1:=by
  intro l m q
  induction q with
  |nil=>intro x hx;exact nomatch hx
  | @cons p q ps qs hq t ih=>
   intro x hx;rcases GK.mp hx with e|hx
   ·subst e;exact jL ok (by rw[<-hq.1];exact hq.2.1)
   ·exact ih x hx
 exact all r x hx
theorem C2{kvs:List (List Key×V)}(ok:HOk P w H h)(e:H a=some (.dT kvs)):kvs.length<=sizeLine/\(a==sysModules)=false/\
  ∃xs,KT H kvs xs/\h.DictOfH (tupleKind<|bK P w) a xs:=ll ok<|.inl e
end
def DGet(H:Hp)(a:Addr)(y:V)(r:Option V):Prop:=
 (∃kvs k,Rd H a (.dK kvs)/\y=kV k/\r=fq kvs k)\/∃kvs k b,Rd H a (.dT kvs)/\y=.ref b/\H b=some (.tup<|k.map kV)/\r=fq kvs k
def DPut(H:Hp)(a:Addr)(y v:V)(H':Hp):Prop:=
 (∃kvs k,H a=some (.dK kvs)/\y=kV k/\kvs.length<sizeLine/\H'=cN H a (.dK<|iM kvs k v))\/
 ∃kvs k b,H a=some (.dT kvs)/\y=.ref b/\H b=some (.tup<|k.map kV)/\kvs.length<sizeLine/\H'=cN H a (.dT<|iM kvs k v)
theorem DGet.k{H:Hp}{a:Addr}{kvs:List (Key×V)}{k:Key}(e:H a=some (.dK kvs)):DGet H a (kV k) (fq kvs k):=.inl ⟨kvs,k,.inl e,rfl,rfl⟩
theorem DPut.k{H:Hp}{a:Addr}{kvs:List (Key×V)}{k:Key}{v:V}(e:H a=some (.dK kvs))(hl:kvs.length<sizeLine):DPut H a (kV k) v (cN H a<|.dK<|iM kvs k v):=.inl ⟨kvs,k,e,rfl,hl,rfl⟩
section
variable{X:Cx}{Z_:List (Addr×Obj)}{Y:St}{H:Hp}{s:Gw}{a:Addr}{y v:V}{u r:Gv}{o:Option V}{A:Hf}{E:Gv->Gw->Prop}
theorem Inv.big(I:Inv X Z_ Y H s):sysModules<s.heap.objs.size:=by
 have h:mainGlobals<s.heap.objs.size:=(I.mod.glob.keeps I.bk).lt;exact Mg ⋯ h
theorem mU{Q:Gv->Gw->Prop}(hu:A.units+1<cLine)(I:Inv X Z_ Y H s)(g:DGet H a y (some v))(ry:RelV y u)(h:∀w' s',Inv X Z_ Y H s'->RelV v w'->Q w' s'):
  wpAny (model X.prog X.w) A (getItem (.ref a) u) Q E s:=by
 rcases g with⟨kvs,k,e,ey,l⟩|⟨kvs,k,b,e,ey,eb,l⟩
 ·subst ey;obtain⟨z,hd,vs,rel,dd⟩:=jc I.hok e;obtain⟨w',hw,rw'⟩:=NH (v:=v) (o:=valueAt vs k) (by rw[l];exact rel.val k);exact NO (lj ry) dd.mapOf hw<|h w' _ (I.tok _) rw'
 ·subst ey;cases (show u=GH b from ry);obtain⟨z,hd,xs,rel,dd⟩:=ll I.hok e;obtain⟨w',hw,rw'⟩:=NH (v:=v) (o:=(atKey xs k).map (·.2)) (by rw[l];exact rel.val k);obtain⟨p,hp,hp2⟩:=Ir.mp hw;refine wpAny_getItem_heap (JN hu) (jL I.hok eb) dd hp ?_;rw[hp2];exact h w' _ (I.tok _) rw'
theorem Ey{Q:Gv->Gw->Prop}(hu:A.units+1<cLine)(I:Inv X Z_ Y H s)(g:DGet H a y o)(ry:RelV y u)(h:∀s',Inv X Z_ Y H s'->Q (.bool o.isSome) s'):
  wpAny (model X.prog X.w) A (compareOp .In u<|.ref a) Q E s:=by
 rcases g with⟨kvs,k,e,ey,l⟩|⟨kvs,k,b,e,ey,eb,l⟩
 ·subst ey;obtain⟨z,hd,vs,rel,dd⟩:=jc I.hok e;refine wpAny_in_of (lj ry) hd dd.mapOf ?_;rw[<-(rel.val k).isSome_eq,<-l];exact h _<|I.tok _
 ·subst ey;cases (show u=GH b from ry);obtain⟨z,hd,xs,rel,dd⟩:=ll I.hok e;refine wpAny_in_heap (JN hu) (jL I.hok eb) hd dd ?_;have q:=(rel.val k).isSome_eq;rw[LP]at q;rw[<-q,<-l];exact h _<|I.tok _
theorem yE{Q:Gv->Gw->Prop}(hu:A.units+1<cLine)(I:Inv X Z_ Y H s)(g:DGet H a y o)(ry:RelV y u)(h:∀s',Inv X Z_ Y H s'->Q (.bool<|!o.isSome) s'):
  wpAny (model X.prog X.w) A (compareOp .NotIn u<|.ref a) Q E s:=by
 rcases g with⟨kvs,k,e,ey,l⟩|⟨kvs,k,b,e,ey,eb,l⟩
 ·subst ey;obtain⟨z,hd,vs,rel,dd⟩:=jc I.hok e;refine wpAny_notIn_of (lj ry) hd dd.mapOf ?_;rw[<-(rel.val k).isSome_eq,<-l];exact h _<|I.tok _
 ·subst ey;cases (show u=GH b from ry);obtain⟨z,hd,xs,rel,dd⟩:=ll I.hok e;refine wpAny_notIn_heap (JN hu) (jL I.hok eb) hd dd ?_;have q:=(rel.val k).isSome_eq;rw[LP]at q;rw[<-q,<-l];exact h _<|I.tok _
theorem nQ{h':Heap}{t':Nat}{ob:HO}(I:Inv X Z_ Y H s)(mu:BU (H a))(hs:GW a s.heap h')(he:∃q,h'.get? a=some q)(new:ObjOk X.prog X.w (cN H a ob) h' a ob):
  Inv X Z_ Y (cN H a ob) {s with heap:=h',toks:=t'}:=
 I.write (x:=a) (e:=a) mu (.inl rfl) (λb q hb z=>(hs.2 b hb).trans z) he new
theorem qG{P:GQ}{w:Ha}{H':Hp}{h':Heap}{kvs:List (Key×V)}{vs:List (Key×Gv)}(z:kvs.length<=sizeLine)(hd:(a==sysModules)=false)(rel:KV kvs vs)(dd:h'.DictOf (bK P w) a vs):
  ObjOk P w H' h' a (.dK kvs):=⟨z,hd,vs,rel,dd⟩
theorem mV{H':Hp}{Q:Unit->Gw->Prop}(hu:A.units+1<cLine)(I:Inv X Z_ Y H s)(g:DPut H a y v H')(ry:RelV y u)(rv:RelV v r)(h:∀s',Inv X Z_ Y H' s'->Q () s'):
  wpAny (model X.prog X.w) A (setItem (.ref a) u r) Q E s:=by
 rcases g with⟨kvs,k,e,ey,l,eH⟩|⟨kvs,k,b,e,ey,eb,l,eH⟩
 ·subst ey eH;obtain⟨z,hd,vs,rel,dd⟩:=A4 I.hok e;have hz:vs.length<=sizeLine:=by rw[<-rel.length];exact z
  have hl:(iM kvs k v).length<=sizeLine:=by have:=ke kvs k v;omega
  refine wpAny_setItem_pairs (hsz:=hz) (lj ry) dd λh' dd' hs=>h _ ?_;have he:∃q,h'.get? a=some q:=let ⟨q,_,_,hq,_⟩:=dd';⟨q,hq⟩;exact nQ I (by rw[e];exact Jm) hs he<|qG hl hd (rel.put k rv) dd'
 ·subst ey eH;cases (show u=GH b from ry);obtain⟨z,hd,xs,rel,dd⟩:=C2 I.hok e;have hz:xs.length<=sizeLine:=by rw[<-Paired.length rel];exact z
  have hl:(iM kvs k v).length<=sizeLine:=by have:=ke kvs k v;omega
  refine wpAny_setItem_heap (hsz:=hz) (JN hu) (jL I.hok eb) dd λh' dd' hs=>h _ ?_;obtain⟨q,es,ep,hq,h2,h3,h4,_,h5⟩:=dd';refine nQ I (by rw[e];exact Jm) hs ⟨q,hq⟩ ⟨hl,hd,_,(rel.put k eb rv).keeps λc ys ec=>?_,q,es,ep,hq,h2,h3,h4,h5⟩;rw[ar (BS ec e (λz=>nomatch z))];exact ec
end
section
variable{X:Cx}{Z_:List (Addr×Obj)}{Y:St}{H:Hp}{s:Gw}{a:Addr}{kvs:List (Key×V)}{k:Key}{u:Gv}{A:Hf}{E:Gv->Gw->Prop}
theorem yF{Q:Gv->Gw->Prop}(I:Inv X Z_ Y H s)(e:H a=some (.dK kvs))(h:∀s',Inv X Z_ Y (cN H a<|.dK []) s'->Q .none s'):wpAny (model X.prog X.w) A (call (.builtin "dict.clear") [.ref a]) Q E s:=by
 obtain⟨z,hd,vs,rel,dd⟩:=A4 I.hok e;refine Mh M1 dd.typeIs PySem.F.entry_dict_clear (PySem.F.args_dict_clear_1 _) (meets_dict_clear (bK X.prog X.w) a) ⟨vs,dd,by rw[<-rel.length];exact z,λh' dd' hs=>h _ ?_⟩;have he:∃q,h'.get? a=some q:=let ⟨q,_,_,hq,_⟩:=dd';⟨q,hq⟩;exact nQ (t':=s.toks) I (by rw[e];exact Jm) hs he<|qG (Kp _) hd .nil dd'
end
def yG(i:Expr):Prop:=∀ov iv,subscripted i false ov iv=operate [ov,iv] (getItem ov iv)
theorem rG{prog:GQ}{w:Ha}{A:Hf}{E:Gv->Gw->Prop}{s:Gw}{env:Env}{value slice:Expr}{pos:Pos}{T id:String}{Q:Gv->Gw->Prop}
  (hl:typeLookup (.type T) "__getitem__"=pure (some<|.builtin id)) (hs:yG slice)
  (h:wpAny (model prog w) A (eval value env) (λo s₁=>wpAny (model prog w) A (eval slice env) (λi s₂=>s₂.TypeIs o T/\wpAny (model prog w) A (getItem o i) Q E s₂) E s₁) E s):
  wpAny (model prog w) A (eval (.Subscript value slice pos) env) Q E s:=by
 refine Ol<|Iw h (λo s₁ h₁=>Iw h₁ (λi s₂ h₂=>?_) λ_ _ x=>x) λ_ _ x=>x;obtain⟨hT,h₂⟩:=h₂;unfold subscriptTail;refine Gn ?_;rw[getitemInPython_of_ne hT.not_modules];refine Gn<|Oa hT hl ?_;have fin:wpAny (model prog w) A (subscripted slice false o i) (λr s₃=>wpAny (model prog w) A (letTemporaryGo value o r>>=λ_=>pure r) Q E s₃) E s₂:=by
  rw[hs o i];exact wpAny_operating<|Iw h₂ (λr s₃ h₃=>Gn<|wpAny_letTemporaryGo<|Gy h₃) λ_ _ x=>x
 first
  |exact Gy<|Gn fin
  |exact Gn<|Gy<|Gn fin
  |exact Gn fin
theorem p5{X:Cx}{Z_:List (Addr×Obj)}{Y:St}{H:Hp}{s:Gw}{a:Addr}{y:V}{o:Option V}(I:Inv X Z_ Y H s)(g:DGet H a y o):s.TypeIs (.ref a) "dict":=by
 rcases g with⟨kvs,k,e,_,_⟩|⟨kvs,k,b,e,_,_,_⟩
 ·obtain⟨_,_,vs,_,dd⟩:=jc I.hok e;exact dd.typeIs
 ·obtain⟨_,_,xs,_,dd⟩:=ll I.hok e;exact dd.typeIs
def A5(td ty:TE):TE:=λY H Q=>td Y H λx H1=>ty Y H1 λy H2=>∃a v,x=.ref a/\DGet H2 a y (some v)/\Q v H2
def C3(ty td:TE):TE:=λY H Q=>ty Y H λy H1=>td Y H1 λx H2=>∃a o,x=.ref a/\DGet H2 a y o/\Q (.bl o.isSome) H2
def rH(ty td:TE):TE:=λY H Q=>ty Y H λy H1=>td Y H1 λx H2=>∃a o,x=.ref a/\DGet H2 a y o/\Q (.bl<|!o.isSome) H2
def cb(td ty tv:TE):TS:=λD Y H=>tv Y H λv H1=>td Y H1 λx H2=>ty Y H2 λy H3=>∃a H4,x=.ref a/\DPut H3 a y v H4/\D.nx Y H4
def A6(td ty tv:TE)(rd:V->V->Hp->VK->Prop):TS:=λD Y H=>td Y H λx H1=>ty Y H1 λy H2=>∃a v,x=.ref a/\DGet H2 a y (some v)/\
 tv Y H2 λy2 H3=>rd v y2 H3 λz H4=>∃H5,DPut H4 a y z H5/\D.nx Y H5
section
variable{X:Cx}{o i e value:Expr}{pos pos' tpos:Pos}{td ty tv:TE}
theorem nR(hu:X.A.units+1<cLine)(ho:PE X o td)(hi:PE X i ty)(hs:yG i):PE X (.Subscript o i pos) (A5 td ty):=by
 intro Z_ s Y H Q I h;refine rG LG.lookup hs<|cG (ho Z_ s Y H _ I h) λu s1 zz=>?_;obtain⟨x,H1,I1,rx,q1⟩:=zz;refine cG (hi Z_ s1 Y H1 _ I1 q1) λiv s2 zz=>?_;obtain⟨y,H2,I2,ry,a,v,ex,g,q2⟩:=zz;subst ex;obtain rfl:u=GH a:=rx;exact⟨p5 I2 g,mU hu I2 g ry λw' s3 I3 rw'=>⟨v,H2,I3,rw',q2⟩⟩
theorem AH(hu:X.A.units+1<cLine)(hi:PE X i ty)(ho:PE X o td):PC X .In i o (C3 ty td):=by
 intro Z_ s Y H Q I h;refine cG (hi Z_ s Y H _ I h) λiv s1 zz=>?_;obtain⟨y,H1,I1,ry,q1⟩:=zz;refine cG (ho Z_ s1 Y H1 _ I1 q1) λu s2 zz=>?_;obtain⟨x,H2,I2,rx,a,ov,ex,g,q2⟩:=zz;subst ex;obtain rfl:u=GH a:=rx;exact Ey hu I2 g ry λs3 I3=>⟨.bl ov.isSome,H2,I3,rfl,q2⟩
theorem tI(hu:X.A.units+1<cLine)(hi:PE X i ty)(ho:PE X o td):PC X .NotIn i o (rH ty td):=by
 intro Z_ s Y H Q I h;refine cG (hi Z_ s Y H _ I h) λiv s1 zz=>?_;obtain⟨y,H1,I1,ry,q1⟩:=zz;refine cG (ho Z_ s1 Y H1 _ I1 q1) λu s2 zz=>?_;obtain⟨x,H2,I2,rx,a,ov,ex,g,q2⟩:=zz;subst ex;obtain rfl:u=GH a:=rx;exact yE hu I2 g ry λs3 I3=>⟨.bl<|!ov.isSome,H2,I3,rfl,q2⟩
theorem jd(hu:X.A.units+1<cLine)(ho:PE X o td)(hi:PE X i ty)(hv:PE X value tv)(hs:swapsWith value (some<|.Subscript o i pos') pos.line X.env=pure false):
  PS X (.Assign [.Subscript o i pos'] value pos) (cb td ty tv):=by
 intro Z_ s Y H D I h;refine wpAny_Assign_Subscript (cG (hv Z_ s Y H _ I h) λr s1⟨v,H1,I1,rv,q1⟩=>cG (ho Z_ s1 Y H1 _ I1 q1) λu s2⟨x,H2,I2,rx,q2⟩=>cG (hi Z_ s2 Y H2 _ I2 q2) λiv s3⟨y,H3,I3,ry,a,H4,ex,g,q3⟩=>?_) hs;subst ex;obtain rfl:u=GH a:=rx;exact mV hu I3 g ry rv λs4 I4=>⟨Y,H4,I4,q3⟩
theorem yH{op:PK}{rd:V->V->Hp->VK->Prop}(hu:X.A.units+1<cLine)(ho:PE X o td)(hi:PE X i ty)(hv:PE X value tv)(hop:AA X op rd)
  (ha:∀ov iv new,augStore i ov iv new=(do holding [new,ov,iv] (setItem ov iv new);release [new,ov,iv] [];pure .next)):PS X (.AugAssign (.Subscript o i tpos) op value pos) (A6 td ty tv rd):=by
 intro Z_ s Y H D I h;refine wpAny_AugAssign_SubscriptAny (cG (ho Z_ s Y H _ I h) λu s1⟨x,H1,I1,rx,q1⟩=>cG (hi Z_ s1 Y H1 _ I1 q1) λiv s2⟨y,H2,I2,ry,a,v,ex,g,q2⟩=>?_) ha;subst ex;obtain rfl:u=GH a:=rx;refine mU hu I2 g ry λw' s3 I3 rw'=>cG (hv Z_ s3 Y H2 _ I3 q2) λw2 s4 zz=>?_;obtain⟨y2,H3,I4,ry2,q3⟩:=zz;refine cG (hop Z_ s4 Y H3 v y2 w' w2 _ I4 rw' ry2 q3) λw3 s5 zz=>?_;obtain⟨z,H4,I5,rz,H5,g5,q4⟩:=zz;exact mV hu I5 g5 ry rz λs6 I6=>⟨Y,H5,I6,q4⟩
end
theorem vB{P:GQ}{w:Ha}{H:Hp}(h:Heap)(hb:sysModules<h.objs.size):ObjOk P w H (h.push {cls:=.type "dict",data:=.dict #[]}) h.objs.size (.dK []):=
 ⟨Kp _,beq_eq_false_iff_ne.mpr<|HW<|GV hb,[],.nil,Qo h⟩
def bx:TE:=λ_ H Q=>∀p,H p=none->Q (.ref p) (cN H p<|.dK [])
section
variable{X:Cx}{pos:Pos}
theorem p7:PE X (.Dict [] [] pos) bx:=λZ_ s Y H Q I h=>
 wpAny_Dict_empty ⟨.ref s.heap.objs.size,_,I.laid (a:=s.heap.objs.size) (o:=.dK []) (t':=s.toks) (λ_ _ q=>Gu _ q) (GO _)<|vB s.heap I.big,rfl,h _<|I.hok.fresh<|GO _⟩
end
structure M2(X:Cx)(o:Expr)(m:Str)(Z7:Pos)(e f:Expr)(Z8:Pos):Prop where
 base:attributeBase o m X.env (eval o X.env)=eval o X.env
 few:((backTo Z8<|starEach [e,f] X.env).all (λx=> !x.1)&&(backToKw Z8<|keywordEach [] X.env).all (λx=>x.1.isSome)
  &&decide (([e,f]:List Expr).length+([]:List Mf).length+(if([]:List Mf).isEmpty then 0 else 1)<30))=true
 line:(Z7.endLine==Z8.line)=true
 trees:backTo Z8 (starEach [e,f] X.env)=[(false,eval e X.env),(false,eval f X.env)]
def ER(H:Hp)(a:Addr):Prop:=(∃kvs,Rd H a<|.dK kvs)\/∃kvs,Rd H a<|.dT kvs
theorem qH{X:Cx}{Z_:List (Addr×Obj)}{Y:St}{H:Hp}{s:Gw}{a:Addr}(I:Inv X Z_ Y H s)(d:ER H a):
  s.TypeIs (.ref a) "dict"/\(∀b,GH a=.ref b->∃ob,s.heap.get? b=some ob/\ob.dict=none)/\(a==sysModules)=false:=by
 rcases d with⟨kvs,e⟩|⟨kvs,e⟩
 ·obtain⟨_,hd,vs,_,dd⟩:=jc I.hok e;refine⟨dd.typeIs,λb q=>?_,hd⟩;cases q;obtain⟨ob,_,_,h1,h2,_⟩:=dd;exact⟨ob,h1,h2.2.1⟩
 ·obtain⟨_,hd,xs,_,dd⟩:=ll I.hok e;refine⟨dd.typeIs,λb q=>?_,hd⟩;cases q;obtain⟨ob,_,_,h1,h2,_⟩:=dd;exact⟨ob,h1,h2.2.1⟩
section
variable{X:Cx}{Z_:List (Addr×Obj)}{Y:St}{H:Hp}{s:Gw}{a:Addr}{y d:V}{u r:Gv}{o:Option V}{A:Hf}{E:Gv->Gw->Prop}
theorem AI{Q:Gv->Gw->Prop}(hu:A.units+1<cLine)(I:Inv X Z_ Y H s)(g:DGet H a y o)(ry:RelV y u)(rd:RelV d r)(h:∀w' s',Inv X Z_ Y H s'->RelV (o.getD d) w'->Q w' s'):
  wpAny (model X.prog X.w) A (call (.builtin "dict.get") [.ref a,u,r]) Q E s:=by
 rcases g with⟨kvs,k,e,ey,l⟩|⟨kvs,k,b,e,ey,eb,l⟩
 ·subst ey;obtain⟨z,hd,vs,rel,dd⟩:=jc I.hok e;refine Mh KJ dd.typeIs Mj (M3 _ _ _) (meets_dict_get_default (bK X.prog X.w) a (lj ry) hd r) ⟨_,dd.mapOf,h _ _ (I.tok _) ?_⟩;rw[l];exact(rel.val k).getD rd
 ·subst ey;cases (show u=GH b from ry);obtain⟨z,hd,xs,rel,dd⟩:=ll I.hok e;refine Mh KJ dd.typeIs Mj (M3 _ _ _) (meetsH_dict_get_default (tupleKind<|bK X.prog X.w) a b hd r) ⟨JN hu,k,xs,jL I.hok eb,dd,h _ _ (I.tok _) ?_⟩;rw[l];exact(rel.val k).getD rd
end
def vC(td ty tx:TE):TE:=λY H Q=>td Y H λx H1=>∃a,x=.ref a/\ER H1 a/\ty Y H1 λy H2=>tx Y H2 λz H3=>∃o,DGet H3 a y o/\Q (o.getD z) H3
section
variable{X:Cx}{o e f:Expr}{Z7 Z8:Pos}{td ty tx:TE}
theorem hG(hu:X.A.units+1<cLine)(ho:PE X o td)(he:PE X e ty)(hf:PE X f tx)(m:M2 X o "get" Z7 e f Z8):PE X (.Call (.Attribute o "get" Z7) [e,f] [] Z8) (vC td ty tx):=by
 intro Z_ s Y H Q I h;refine wpAny_Call_method m.base m.few m.line Kr KJ PySem.F.type_dict_get<|cG (ho Z_ s Y H _ I h) λu s1 zz=>?_;obtain⟨x,H1,I1,rx,a,ex,d,q1⟩:=zz;subst ex;obtain rfl:u=GH a:=rx;obtain⟨t1,t2,_⟩:=qH I1 d;refine⟨t1,t2,?_⟩;rw[m.trees];refine Ji rfl (L7 (Lv (cG (he Z_ s1 Y H1 _ I1 q1) λiv s2⟨y,H2,I2,ry,q2⟩=>
  Lv (cG (hf Z_ s2 Y H2 _ I2 q2) λfv s3⟨z,H3,I3,rz,ov,g,q3⟩=>Nt ?_))))
 exact AI hu I3 g ry rz λw' s4 I4 rw'=>⟨_,H3,I4,rw',q3⟩
end
section
variable{X:Cx}{Z_:List (Addr×Obj)}{Y:St}{H:Hp}{s:Gw}{a:Addr}{kvs:List (Key×V)}{A:Hf}{E:Gv->Gw->Prop}
theorem vD{Q:Gv->Gw->Prop}(I:Inv X Z_ Y H s)(e:Rd H a (.dK kvs))(h:∀p s',H p=none->Inv X Z_ Y (cN H p<|.dK kvs) s'->Q (.ref p) s'):wpAny (model X.prog X.w) A (call (.type "dict") [.ref a]) Q E s:=by
 obtain⟨z,hd,vs,rel,dd⟩:=jc I.hok e;refine kt_call_dict hd dd (by rw[<-rel.length];exact z) λh' dd' hs=>?_;refine h _ _ (I.hok.fresh<|GO _)<|I.laid (a:=s.heap.objs.size) (o:=.dK kvs) (t':=s.toks) (λb q hq=>?_) (GO _)<|qG z (beq_eq_false_iff_ne.mpr<|HW<|GV I.big) rel dd';exact(hs.2 b<|GV<|GF hq).trans (Gu _ hq)
end
end L2
namespace Att
open PySem PySem.W PySem.Calls PyProof.Rows
theorem kF{P:Q5}{h:Heap}:∀(ns:List Int)(vs:List Gv),WellAll P h vs (ns.map Qj)->Nv vs ns:=by
 intro ns
 induction ns with
 |nil=>
  intro vs w;rw[Kx]at w;cases w;exact .nil
 |cons n ns ih=>
  intro vs w;rw[Hs]at w;cases w with
  |cons a b=>
   cases a;exact .cons _ _<|ih _ b
theorem tJ{l:L8}{n:Nat}(hn:l.most=some n){P:Q5}{h:Heap}{args:List WData}{vals:List Gv}
  (hpre:l.row.toRowW.claim.pre args=true) (hwl:WellAll P h vals args):
  ∃a vs ns,vals=[GH a]/\args=[WData.list (ns.map Qj)]/\h.get? a=some {cls:=.type "list",data:=.seq vs.toArray}/\Nv vs ns/\ns.length<=n:=by
 have hsh:WShape.hasAll [] args [.list .int]=true:=(pre_splitW hpre).1;have hc:l.pre.holds [] {args:=args}=true:=(pre_splitW hpre).2;obtain⟨d,r,rfl,h1,h2⟩:=hasAllW_cons hsh;obtain rfl:=hasAllW_nil h2;obtain⟨xs,rfl,h3⟩:=hasW_list h1;obtain⟨ns,rfl⟩:=items_int h3;have hlen:ns.length<=n:=by
  unfold OpenLaw.pre at hc;have h4:(WTm.not<|.lt (.lit<|.int (n:Int))<|.len<|.arg 0).holds [] {args:=[.list (ns.map .int)]}=true:=by
   have h4:=(holds_andW hc).1;rw[hn]at h4;exact h4
  have h5:=condW_of h4<|w_not<|w_lt w_lit<|w_len_list<|w_arg rfl;rw[GR]at h5;refine NP λq=>?_;have q':(n:Int)<((ns.length:Nat):Int):=by omega
  first
   |(rw[decide_eq_true q']at h5;exact absurd h5 ⋯)
   |(simp at h5;omega)
 cases hwl with
 |cons w1 w2=>
  cases w2;cases w1 with
  |list ho hall=>exact⟨_,_,ns,rfl,rfl,ho,kF ns _ hall,hlen⟩
theorem tK(l:L8)(args:List WData):l.row.toRowW.claim.post args (.bool true) args=true:=
 postW_of (r:=l.row.toRowW) (X:=(true==true))
  (show Q6 [] (.bool true) .bool=true by first|rfl|decide|simp[Q6,WShape.arms,WShape.armsAll])
  (show(WTm.eq .res<|.lit<|.bool true).value [] {args:=args,res:=some<|.bool true,after:=args}=some (.bool<|true==true)from w_eq_bool (w_res rfl) w_lit) rfl
theorem attach_call{l:L8}{n:Nat}{q:GQ}{loose:List Str}{XP:(Str->Option Gv)->Heap->Prop}{YP:Ha->Heap->Prop}{d:DefRec}
  (hn:l.most=some n) (hdf:d.params.defaults=[])
  (call:∀(w:Ha) (s₀ s₁:Gw) (mg mb:Str->Option Gv) (fa:Addr) (o:Obj) (pm cd doc:Gv) (a:Addr) (vs:List Gv) (ns:List Int),
   Ground q loose [] XP w s₀ mg mb s₁.heap->YP w s₁.heap->
   s₁.heap.get? fa=some o->o.data=.func (docDef d.name d.params d.body d.scope pm cd doc)->s₁.heap.CodeRec cd d.name->mg d.name=some (.ref fa)->
   s₁.heap.get? a=some {cls:=.type "list",data:=.seq vs.toArray}->Nv vs ns->ns.length<=n->s₁.gens= #[]->
   codeAny (model l.prog w) callerA (.call (.ref fa) ⟨[.ref a],[]⟩) (λr s'=>r=.ok (.ret (.bool true))/\OldK s₁.heap s'.heap/\s'.os=s₁.os/\Lm s'.gens) s₁):
  Of q loose XP YP l.row.toRowW d [] (λf vs=>Ou f vs):=by
 intro w s₀ s₁ mg mb G Z0 fa o pm cd doc dV kV ho hd hcd hD hmg hg args vals as hpre hlay hrd hwl hlo;obtain rfl:dV=.none:=Dflts.none hD hdf;obtain rfl:kV=.none:=Dflts.noKw hD;obtain⟨a,vs,ns,rfl,rfl,hobj,hints,hlen⟩:=tJ hn hpre hwl;refine enter_call<|Lo (call w s₀ s₁ mg mb fa o pm cd doc a vs ns G Z0 ho (fd_plain hd) hcd hmg hobj hints hlen hg) λr s' hq=>?_;obtain⟨rfl,h2,h3,h4⟩:=hq;exact⟨.inl ⟨.bool true,.bool true,[],rfl,λ_=>rfl,.bool true,tK l _,λ_=>⟨Ny,λ_ hm=>(nomatch hm)⟩⟩,h2,h3,h4⟩
end Att
namespace L2
open PySem PySem.Spec PyProof.Rows
theorem mW:∀{vs:List Gv}{ns:List Int},Nv vs ns->Vals (ns.map Kf) vs
 |_,_,.nil=>.nil
 |_,_,.cons n t h=>.cons ⟨t,rfl⟩<|mW h
def AJ(H:Hp):Prop:=∀b,H b=none\/∃o xs,H b=some (.frz o<|.lst xs)
theorem vF{P:GQ}{w:Ha}{K:Gp}{mg mb:Str->Option Gv}{CX:CXT}{k:Nat}{fa a:Addr}{fd:GJ}{x:Str}{sp:Sp}{s₁:Gw}{vs:List Gv}{ns:List Int}
  (KX:K.In s₁.heap) (hns:s₁.heap.Ns mainGlobals mg) (hb:s₁.heap.Ns builtinsNs mb) (hbb:∀x:Str,x≠"__name__"->mb x=bootBuiltins x) (hlim:s₁.heap.NoLimit) (hg:s₁.gens= #[])
  (ha:s₁.heap.get? a=some {cls:=.type "list",data:=.seq vs.toArray}) (hi:Nv vs ns) (hl:ns.length<=sizeLine) (hr:Room k callerA)
  (F:∀base:Heap,K.In base->base.Ns mainGlobals mg->FnOk P w K mg base CX k fa fd [x] sp) (hbind:∀(s:Gw)(u:Gv),MR s fd ⟨[u],[]⟩ [(x,u)])
  (hsp:∀H:Hp,AJ H->SqL K H a (ns.map Kf)->sp [.ref a] H (λv _=>v=.bl true) λ_ _ _=>False)
  (hCX:∀H e s',CX [] H s₁ (λ_ _ _=>False) e s'->False):
  codeAny (model P w) callerA (.call (.ref fa) ⟨[.ref a],[]⟩) (λr s'=>r=.ok (.ret<|.bool true)/\OldK s₁.heap s'.heap/\s'.os=s₁.os/\Lm s'.gens) s₁:=by
 have rv:=mW hi;have lenV:=hi.length;have core:∀H:Hp,AJ H->SqL K H a (ns.map Kf)->HOk P w H s₁.heap->(∀b,H b≠none->b=a)->(H a≠none->K.lookup a=none)->
   codeAny (model P w) callerA (.call (.ref fa) ⟨[.ref a],[]⟩) (λr s'=>r=.ok (.ret<|.bool true)/\OldK s₁.heap s'.heap/\s'.os=s₁.os/\Lm s'.gens) s₁:=by
  intro H hO hS hok hA hK;have base_of:∀{b:Addr}{o:Obj},s₁.heap.get? b=some o->H b=none->(nI s₁.heap H).get? b=some o:=λe n=>vd e n;have noA:∀{b:Addr}{o:Obj}{es:Array J9}{ep:Nat},s₁.heap.get? b=some o->o.data=.dict es ep->H b=none:=λ{b o es ep}e d=>by
   cases q:H b with
   |none=>rfl
   |some u=>
    have e':b=a:=hA b (by rw[q];simp);subst e';rw[ha]at e;cases e;have d':MM vs.toArray _=Data.dict es ep:=d;cases d'
  have nsK:∀{b:Addr}{m:Str->Option Gv},s₁.heap.Ns b m->(nI s₁.heap H).Ns b m:=λ{b m}⟨o,es,ep,e,d,r⟩=>⟨o,es,ep,base_of e<|noA e d,d,r⟩
  have hKb:K.In (nI s₁.heap H):=λb o e=>base_of (KX b o e) (by
   cases q:H b with
   |none=>rfl
   |some u=>
    have e':b=a:=hA b (by rw[q];simp);subst e';rw[hK (by rw[q];simp)]at e;cases e)
  have hM:Mod K mg (nI s₁.heap H):=⟨hKb,nsK hns,⟨mb,nsK hb,hbb⟩,let ⟨mc,h1,h2⟩:=hlim;⟨mc,nsK h1,h2⟩⟩
  have e0:Env0 P w K mg (nI s₁.heap H) callerA [] s₁ H:=⟨rfl,hM,λb o e=>yq e,Pk<|t9 _ _,trivial,λb hb=>absurd (show b∈([]:List Addr)from hb) (by simp),hok,.of_eq hg⟩
  refine Lo ((F _ hKb<|nsK hns).run callerA [] s₁ H ⟨[.ref a],[]⟩ [.ref a] [.ref a] _ _ hr e0 (hbind s₁<|.ref a) (.cons rfl .nil) (hsp H hO hS)) λr s' h=>?_;cases r with
  |error e=>exact(hCX H e s' h).elim
  |ok fl=>
   cases fl with
   |next=>exact Ik h
   |brk=>exact Ik h
   |cont=>exact Ik h
   |ret u=>
    obtain⟨v,H',os,bare,un,hok',r',q⟩:=h;have q':v=.bl true:=q;subst q';obtain rfl:u=N5 true:=r';refine⟨rfl,OldK.of_keep λb o e=>?_,os,bare⟩;cases q:H b with
    |none=>exact un.keep b o e q (by intro z;exact absurd (show b∈([]:List Addr)from z) (by simp)) (by simp)
    |some u=>
     rcases hO b with z|⟨ob,xs,z⟩
     ·rw[q]at z;cases z
     ·have z2:=un.frzs b ob _ z;obtain⟨e1,_⟩:=hok b _ z;obtain⟨e2,_⟩:=hok' b _ z2;rw[e]at e1;cases e1;exact e2
 cases hk:K.lookup a with
 |some o=>
  have e:=KX a o hk;rw[ha]at e;cases e;refine core (λ_=>none) (λ_=>.inl rfl) (.inr ⟨_,vs.toArray,_,hk,rfl,rfl,rfl,by rw[GG,lenV];exact hl,by simpa using rv⟩) (λb u z=>by have z':(none:Option HO)=some u:=z;cases z') (λb z=>absurd rfl z) λz=>absurd rfl z
 |none=>
  refine core (λb=>if b=a then some (.frz {cls:=.type "list",data:=.seq vs.toArray}<|.lst<|ns.map Kf)else none) (λb=>?_) (.inl<|.inr ⟨{cls:=.type "list",data:=.seq vs.toArray},Z1 rfl⟩) (λb u z=>?_) (λb z=>?_) λ_=>hk
  ·by_cases hb:b=a;·exact .inr ⟨_,_,Z1 hb⟩
   ·exact .inl<|Z2 hb
  ·by_cases hb:b=a
   ·have z':=(Z1 hb).symm.trans z;cases z';subst hb;exact⟨ha,by rw[GR];exact hl,vs,_,rv,ha⟩
   ·have z':=(Z2 hb).symm.trans z;cases z'
  ·by_cases hb:b=a;·exact hb
   ·exact absurd (Z2 hb) z
theorem walk_of{l:L8}{n k:Nat}{q:GQ}{loose:List Str}{XP:(Str->Option Gv)->Heap->Prop}{YP:Ha->Heap->Prop}{d:DefRec}{K:Q5->Gp}{CX:Ha->CXT}{sp:Ha->Sp}{x:Str}
  (hn:l.most=some n) (hn2:n<=sizeLine) (hdf:d.params.defaults=[]) (hr:Room k callerA)
  (hY:∀(w:Ha)(h:Heap),YP w h->(K w.params).In h)
  (F:∀(w:Ha) (mg:Str->Option Gv) (fa:Addr) (h:Heap),(K w.params).In h->h.Ns mainGlobals mg->mg d.name=some (.ref fa)->
   ∃fd:GJ,(∀(s:Gw)(u:Gv),MR s fd ⟨[u],[]⟩ [(x,u)])/\
    ∀base:Heap,(K w.params).In base->base.Ns mainGlobals mg->FnOk l.prog w (K w.params) mg base (CX w) k fa fd [x] (sp w))
  (hsp:∀(w:Ha)(H:Hp)(a:Addr)(ns:List Int),ns.length<=n->AJ H->SqL (K w.params) H a (ns.map Kf)->sp w [.ref a] H (λv _=>v=.bl true) λ_ _ _=>False)
  (hCX:∀(w:Ha)(H:Hp)(s:Gw)(e:Gv)(s':Gw),CX w [] H s (λ_ _ _=>False) e s'->False):
  Of q loose XP YP l.row.toRowW d [] (λf vs=>Ou f vs):=by
 refine Att.attach_call hn hdf λw s₀ s₁ mg mb fa o pm cd doc a vs ns G Z0 ho hd hcd hmg hobj hints hlen hg=>?_;have KX:=hY w _ Z0;obtain⟨fd,hb,hF⟩:=F w mg fa _ KX G.T.g hmg;exact vF KX G.T.g G.T.b G.T.builtins G.T.nolimit hg hobj hints (HB hlen hn2) hr hF hb (λH hO hS=>hsp w H a ns hlen hO hS) λH e s'=>hCX w H s₁ e s'
def defArgs(s:Stmt):Arguments:=match s with
 | .FunctionDef _ a _ _ _ _ _ _ _ _=>a
 |_=>{posonlyargs:=[],args:=[],vararg:=none,kwonlyargs:=[],kw_defaults:=[],kwarg:=none,defaults:=[]}
def defBody(s:Stmt):List Stmt:=match s with
 | .FunctionDef _ _ b _ _ _ _ _ _ _=>b
 |_=>[]
def defScope(s:Stmt):JH:=match s with
 | .FunctionDef _ _ _ _ _ _ sc _ _ _=>sc
 |_=>{kind:=.function,names:=[],isGenerator:=false,isCoroutine:=false}
abbrev CX0:CXT:=λ_ _ _ _ _ _=>False
abbrev E0:XK:=λ_ _ _=>False
theorem rJ{X:Cx}:fo CX0 X E0:=λ_ _ _ _ _ _ _ h=>h.elim
structure Fun(K:Gp)(x Z6:Str)(st:Stmt)(f:Addr)(fd:GJ):Prop where
 ex:∃(oc:Gv)(od:Option Addr)(kV doc pm:Gv)(an:Option Addr)(Z9 ct:Gv)(osl:Array (Option Gv)),
  fd=IU x Z6 (defArgs st) (defBody st) (defScope st) .none kV doc pm an Z9 ct/\K.lookup f=some ⟨oc,od,.func fd,osl⟩/\K7 K Z9 Z6=true
 kp:I9 K (.ref f)=true
section
variable{P:GQ}{w:Ha}{K:Gp}{mg:Str->Option Gv}{base:Heap}
theorem Fun.ok{x Z6:Str}{st:Stmt}{f:Addr}{fd:GJ}{N ps:List Str}{k:Nat}{sp:Sp}(F:Fun K x Z6 st f fd)(S:FnScope N ps (defScope st))(len:∀vs H Q E,sp vs H Q E->vs.length=ps.length)
  (hbody:∀(Z9:Gv) (A:Hf) (outer:List Env) (s:Gw) (H:Hp) (vs:List V) (Q:VK) (E:XK),Room k (A.deeper<|envOfC Z6 (defScope st) s.heap.objs.size f Z9)->sp vs H Q E->
   ∃t,PSs (lg CX0 P w K mg base N Z6 (defScope st) f Z9 A outer s H E).nox (defBody st) t/\t {nx:=λ_ H'=>Q .non H',rt:=Q} (start N vs) H):FnOk P w K mg base CX0 (k+1) f fd ps sp:=by
 obtain⟨oc,od,kV,doc,pm,an,Z9,ct,osl,rfl,lk,hcd⟩:=F.ex;refine A1 lk hcd S len λA outer s H vs Q E hr hsp=>?_;obtain⟨t,h,q⟩:=hbody Z9 A outer s H vs Q E hr hsp;exact⟨t,h.nox,q⟩
theorem Fun.binds{x Z6:Str}{st:Stmt}{f:Addr}{fd:GJ}{ps:List Str}(F:Fun K x Z6 st f fd)
  (h:∀(kV doc pm:Gv)(an:Option Addr)(Z9 ct:Gv)(us:List Gv),us.length=ps.length->bindArgs (IU x Z6 (defArgs st) (defBody st) (defScope st) .none kV doc pm an Z9 ct) ⟨us,[]⟩=pure (ps.zip us)):Binds K fd ps []:=by
 obtain⟨oc,od,kV,doc,pm,an,Z9,ct,osl,rfl,lk,hcd⟩:=F.ex;exact .all<|h kV doc pm an Z9 ct
theorem lp{x Z6:Str}{st:Stmt}{f:Addr}{oc:Gv}{od an:Option Addr}{osl:Array (Option Gv)}{kV doc pm Z9 ct:Gv}(l:K.lookup f=some ⟨oc,od,.func<|IU x Z6 (defArgs st) (defBody st) (defScope st) .none kV doc pm an Z9 ct,osl⟩)
  (c:K7 K Z9 Z6=true) (k:I9 K (.ref f)=true):Fun K x Z6 st f (IU x Z6 (defArgs st) (defBody st) (defScope st) .none kV doc pm an Z9 ct):=⟨⟨oc,od,kV,doc,pm,an,Z9,ct,osl,rfl,l,c⟩,k⟩
end
section
variable{X:Cx}
theorem pv(i:Nat){x:Str}{pos:Pos}(hN:X.N[i]? =some x:=by rfl)(hv:Vis X.env.scope x:=by first|exact Ky rfl|exact Km (Ky rfl)|exact Km<|Km rfl)(hd:(x==("__debug__" :Str))=false:=by decide)
  (hcd:(x==("__classdict__" :Str))=false:=by decide):PE X (.Name x pos) (bC i):=Ar hN hv hd hcd
end
def Same(H H':Hp):Prop:=∀b o,H b=some o->H' b=some o
theorem Same.refl(H:Hp):Same H H:=λ_ _ h=>h
theorem Same.trans{H H1 H2:Hp}(a:Same H H1)(b:Same H1 H2):Same H H2:=λc o h=>b c o<|a c o h
theorem Same.seq{K:Gp}{H H':Hp}{a:Addr}{xs:List V}(e:Same H H')(h:SqL K H a xs):SqL K H' a xs:=by
 rcases h with(h|⟨o,h⟩)|h;·exact .inl<|.inl<|e _ _ h
 ·exact .inl<|.inr ⟨o,e _ _ h⟩
 ·exact .inr h
end L2
set_option maxHeartbeats 4000000
namespace L2
open PySem PySem.Spec PyProof.Rows
abbrev sOf(l:List Nat):Str:=⟨l.toArray⟩
theorem cU(l:List Nat):(sOf l).length=l.length:=by simp[Q4,sOf]
theorem kL(l:List Nat):(sOf l).cps.toList=l:=by simp[sOf]
theorem gE(a b:List Nat):sOf a++sOf b=sOf (a++b):=by
 apply PySem.Str.ext';rw[PySem.Str.cps_append];simp[sOf]
theorem rK{a b:List Nat}(h:sOf a=sOf b):a=b:=by
 have:=congrArg (λx=>x.cps.toList) h;simpa [sOf] using this
theorem vG(x:Str):x=sOf x.cps.toList:=by cases x;simp[sOf]
def DictK(K:Gp)(w:Ha)(a:Addr)(kvs:List (Key×V)):Prop:=
 kvs.length<=1000/\(a==sysModules)=false/\(kvs.map (·.1)).Nodup/\∃(es:Array J9)(ep:Nat),K.lookup a=some {cls:=.type "dict",data:=.dict es ep}/\
  Paired (λ(p:Key×V)(e:J9)=>gI p.1 e.key=true/\e.hash=vc w p.1/\RelV p.2 e.val) kvs es.toList
theorem p9{P:GQ}{w:Ha}{kvs:List (Key×V)}{es:List J9}(r:Paired (λ(p:Key×V)(e:J9)=>gI p.1 e.key=true/\e.hash=vc w p.1/\RelV p.2 e.val) kvs es):
  ∀e∈es,∃k,gI k e.key=true/\e.hash=vc w k:=by
 induction r with
 |nil=>intro e h;cases h
 | @cons p e ps es h t ih=>
  intro e' h';rcases GK.mp h' with rfl|h'
  ·exact⟨p.1,h.1,h.2.1⟩
  ·exact ih e' h'
theorem nS{P:GQ}{w:Ha}{kvs:List (Key×V)}{es:List J9}(r:Paired (λ(p:Key×V)(e:J9)=>gI p.1 e.key=true/\e.hash=vc w p.1/\RelV p.2 e.val) kvs es):
  ∃vs,KV kvs vs/\Pairs (bK P w) es vs/\vs.map (·.1)=kvs.map (·.1):=by
 induction r with
 |nil=>exact⟨[],.nil,.nil,rfl⟩
 | @cons p e ps es h t ih=>
  obtain⟨vs,h1,h2,h3⟩:=ih;exact⟨(p.1,e.val)::vs,.cons ⟨rfl,h.2.2⟩ h1,.cons h.1 rfl h2,by simp[h3]⟩
theorem DictK.of{P:GQ}{w:Ha}{K:Gp}{a:Addr}{kvs:List (Key×V)}{h:Heap}(d:DictK K w a kvs)(x:K.In h):(a==sysModules)=false/\∃vs,KV kvs vs/\h.DictOf (bK P w) a vs:=by
 obtain⟨hz,hs,nd,es,ep,lk,r⟩:=d;obtain⟨vs,h1,h2,h3⟩:=nS (P:=P) r;refine⟨hs,vs,h1,_,es,ep,x _ _ lk,⟨rfl,rfl,rfl⟩,rfl,λe he=>p9 (P:=P) r e (by simpa using he),h2,by rw[h3];exact nd⟩
section
variable{X:Cx}{o i e:Expr}{pos:Pos}{td ty:TE}
def bo(K:Gp)(w:Ha)(td ty:TE):TE:=λY H Q=>td Y H λx H1=>ty Y H1 λy H2=>∃a kvs k v,x=.ref a/\DictK K w a kvs/\y=kV k/\fq kvs k=some v/\Q v H2
theorem vH(ho:PE X o td)(hi:PE X i ty)(hs:yG i):PE X (.Subscript o i pos) (bo X.K X.w td ty):=by
 intro Z_ s Y H Q I h;refine rG LG.lookup hs<|cG (ho Z_ s Y H _ I h) λu s1 zz=>?_;obtain⟨x,H1,I1,rx,q1⟩:=zz;refine cG (hi Z_ s1 Y H1 _ I1 q1) λiv s2 zz=>?_;obtain⟨y,H2,I2,ry,a,kvs,k,v,ex,dk,ey,ev,q2⟩:=zz;subst ex ey;obtain rfl:u=GH a:=rx;obtain⟨hd,vs,rel,dd⟩:=dk.of (P:=X.prog) I2.kIn;refine⟨dd.typeIs,?_⟩;obtain⟨w',hw,rw'⟩:=NH (v:=v) (o:=valueAt vs k) (by rw[<-ev];exact rel.val k);exact NO (lj ry) dd.mapOf hw ⟨v,H2,I2.tok _,rw',q2⟩
end
section
variable{X:Cx}
theorem lq:OpR X (compareOp .Is) (λx y H Q=>∃c,y=.bl c/\Q (.bl<|decide<|x=.bl c) H):=by
 intro Z_ s Y H x y v u Q I rx ry h;obtain⟨c,rfl,q⟩:=h;cases ry;cases x with
 |bl b=>cases rx;exact is_bool (bh I q (by cases b<;>cases c<;>simp))
 |non=>cases rx;exact Gy (bh I q (by simp))
 |int i=>obtain⟨t,rfl⟩:=rx;exact Gy (bh I q (by simp))
 |str i=>obtain⟨t,rfl⟩:=rx;exact Gy (bh I q (by simp))
 |byt i=>obtain⟨t,rfl⟩:=rx;exact Gy (bh I q (by simp))
 |flt i=>obtain⟨t,rfl⟩:=rx;exact Gy (bh I q (by simp))
 |ref a=>cases rx;exact Gy (bh I q (by simp))
 |ty a=>cases rx;exact Gy (bh I q (by simp))
theorem lu:OpR X (binaryOp .Mult) (λx y H Q=>∃c n,x=.str (sOf [c])/\y=.int n/\0<=n/\n<=100000/\Q (.str<|sOf<|GS n.toNat c) H):=by
 intro Z_ s Y H x y v u Q I rx ry h;obtain⟨c,n,rfl,rfl,h0,h1,q⟩:=h;obtain⟨t,rfl⟩:=rx;obtain⟨t',rfl⟩:=ry;have hl:(sOf [c]).length=1:=cU [c];refine SB.mul ?_ λt' k=>?_
 ·refine⟨?_,λ_ _=>?_,λ_ _=>?_⟩
  ·have e1:decide (n< -(2^63:Int))=false:=decide_eq_false (by omega);have e2:decide (n≥2^63)=false:=decide_eq_false (by omega);rw[e1,e2];rfl
  ·rw[hl];have h2:1<=n:=by omega
   have:(1:Int)<=(2^63-1)/n:=(Int.le_ediv_iff_mul_le (by omega)).mpr (by omega);omega
  ·rw[hl];unfold PV;have:=HR;simp;omega
 ·have e:Qe (sOf [c]) n=sOf (GS n.toNat c):=by
   rw[vG<|Qe (sOf [c]) n];show sOf ((Qe ⟨#[c]⟩ n).cps.toList)=_;rw[mul_one_list]
  exact⟨.str _,H,I.tok _,⟨t',rfl⟩,by rw[e];exact q⟩
end
section
variable{X:Cx}
def kG(l:List Nat)(lo hi:Option Int):List Nat:=(l.drop<|HT.sIx l.length 0 lo).take (HT.sIx l.length l.length hi-HT.sIx l.length 0 lo)
theorem lx(lo hi:Option Int)(n:Nat):IS lo hi 1 n=sliceRange ((HT.sIx n 0 lo:Nat):Int) ((HT.sIx n n hi:Nat):Int) 1:=by
 unfold IS;have e1:(match lo with|none=>(0:Int)|some i=>max 0 (min (if i<0 then i+(n:Int)else i) n))=((HT.sIx n 0 lo:Nat):Int):=by
  cases lo with
  |none=>simp[HT.sIx]
  |some i=>simp only[HT.sIx];by_cases h:i<0<;>simp only[h,if_true,if_false]<;>omega
 have e2:(match hi with|none=>(n:Int)|some i=>max 0 (min (if i<0 then i+(n:Int)else i) n))=((HT.sIx n n hi:Nat):Int):=by
  cases hi with
  |none=>simp[HT.sIx]
  |some i=>simp only[HT.sIx];by_cases h:i<0<;>simp only[h,if_true,if_false]<;>omega
 simp only[show(1:Int)>0 by decide,if_true];rw[<-e1,<-e2];cases lo<;>cases hi<;>rfl
theorem tL(l:List Nat)(lo hi:Option Int):NQ (sOf l) lo hi=sOf (kG l lo hi):=by
 have hn:(sOf l).length=l.length:=cU l;have hk:(IS lo hi 1 l.length).filterMap ((sOf l).cps[·]?)=kG l lo hi:=by
  rw[lx,ML,pick_run];simp[kG]
 have hlen:(IS lo hi 1 l.length).length=(kG l lo hi).length:=by
  rw[lx,ML];have h1:=HT.sIx_le l.length 0 (Kp _) lo;have h2:=HT.sIx_le l.length l.length (GO _) hi;simp[kG];omega
 unfold NQ;rw[hn];split
 ·rename_i h;have h:(IS lo hi 1 l.length).length=l.length:=by simpa using h
  have hl:=hlen.symm.trans h;have e:kG l lo hi=l:=by
   have h3:(kG l lo hi).length<=(l.drop<|HT.sIx l.length 0 lo).length:=by unfold kG;simp;omega
   have h4:HT.sIx l.length 0 lo=0\/l.length=0:=by
    rw[KP]at h3;omega
   rcases h4 with h4|h4
   ·unfold kG at hl ⊢;rw[h4]at hl ⊢;rw[Ov]at hl ⊢;rw[Kd]at hl;exact Kz (by omega)
   ·have:l=[]:=List.length_eq_zero_iff.mp h4;subst this;simp[kG]
  rw[e]
 ·rw[hk]
theorem eN:DD X (λx lo hi H Q=>∃l,x=.str (sOf l)/\l.length<=sizeLine/\Q (.str<|sOf<|kG l lo hi) H):=by
 intro Z_ s Y H x v vl vu lo hi sl Q I rx hs pl pu h;obtain⟨l,rfl,hz,q⟩:=h;obtain⟨t,rfl⟩:=rx;obtain⟨a1,rfl,e1⟩:∃a:Option (Int×Tok),vl=partValue a/\a.map (·.1)=lo:=by
  cases pl with
  |none=>exact⟨none,rfl,rfl⟩
  |int i t=>exact⟨some (i,t),rfl,rfl⟩
 obtain⟨a2,rfl,e2⟩:∃a:Option (Int×Tok),vu=partValue a/\a.map (·.1)=hi:=by
  cases pu with
  |none=>exact⟨none,rfl,rfl⟩
  |int i t=>exact⟨some (i,t),rfl,rfl⟩
 have hle:(NQ (sOf l) lo hi).length<=sizeLine:=HB (Txt.slice_le _ _ _) (by rw[cU];exact hz);refine⟨"str",_,PySem.F.slot_str_getitem.lookup,Om _ _ _,wpAny_getItem_str_slice (l:=a1) (u:=a2) (st:=none) hs rfl ?_⟩;subst e1 e2;refine post_val_or_str ⟨hle,λt' k=>⟨.str _,H,I.tok _,⟨t',rfl⟩,?_⟩⟩;have:=tL l (a1.map (·.1)) (a2.map (·.1));unfold NQ at this;show Q (.str (if _ then _ else _)) H;exact this▸q
theorem vI(hc:X.calm=true):A2 X "str.index" (λx xs H Q=>∃a b,x=.str a/\xs=[.str b]/\0<=Lz a b/\Q (.int<|Lz a b) H):=by
 intro Z_ s Y H x xs v us Q I rx rs h;obtain⟨a,b,rfl,rfl,h0,q⟩:=h;obtain⟨t,rfl⟩:=rx;obtain⟨u,rfl,t',rfl⟩:=fx rs;refine index_or (I.ok.hd hc) (λe=>?_) λ_ _=>⟨.int _,H,I.tok _,⟨_,rfl⟩,q⟩
 omega
theorem iR{ys:List (List Nat)}:∀{us:List Gv},Vals (ys.map λy=>Jp<|sOf y) us->Pm us (ys.map sOf):=by
 induction ys with
 |nil=>intro us r;cases r;exact .nil
 |cons y ys ih=>
  intro us r;cases r with
  |cons r1 r2=>
   obtain⟨t,e⟩:=r1;subst e;exact .cons _ t<|ih r2
theorem qI(ys:List (List Nat)):Txt.join (sOf []) (ys.map sOf)=sOf ys.flatten:=by
 have key:∀(r:List (List Nat))(acc:List Nat),(r.map sOf).foldl (λacc p=>acc++(sOf []).cps++p.cps) acc.toArray=(acc++r.flatten).toArray:=by
  intro r
  induction r with
  |nil=>intro acc;simp
  |cons a r ih=>
   intro acc;rw[Hs,JQ,Ij,<-J8,<-ih (acc++a)];simp[sOf]
 cases ys with
 |nil=>rfl
 |cons a r=>
  show Str.mk (((r.map sOf)).foldl (λacc p=>acc++(sOf []).cps++p.cps) a.toArray)=_;rw[key];rfl
theorem yI:A2 X "str.join" (λx xs H Q=>∃(p:Addr)(ys:List (List Nat)),x=.str (sOf [])/\xs=[.ref p]/\SqL X.K H p (ys.map λy=>Jp<|sOf y)/\ys.flatten.length<=100000/\Q (.str<|sOf ys.flatten) H):=by
 intro Z_ s Y H x xs v us Q I rx rs h;obtain⟨p,ys,rfl,rfl,hp,hl,q⟩:=h;obtain⟨t,rfl⟩:=rx;obtain⟨u,rfl,r1⟩:=fx rs;cases r1;obtain⟨its,r,pl,hz⟩:=I.list hp;refine join_list pl.isList (by simpa using iR r) ?_ λt' k=>⟨.str _,H,I.tok _,⟨t',rfl⟩,by rw[qI];exact q⟩
 have e:((ys.map sOf).map (·.length)).sum=ys.flatten.length:=by
  rw[HP,MV];congr 1
  all_goals exact Iz λy _=>cU y
 have e2:(sOf []).length=0:=cU [];rw[e,e2];omega
theorem pe:ei X (.builtin "isinstance") (λxs H Q=>∃x T t b,xs=[x,.ty T]/\TyOf X.K H x t/\Hh X.K t (.type T)=some b/\Q (.bl b) H):=by
 intro Z_ s Y H xs us Q I r h;obtain⟨x,T,t,b,rfl,ty,e,q⟩:=h;obtain⟨u,w',rfl,rx,rT⟩:=oR r;obtain rfl:w'=.type T:=rT;exact tG I rx ty e λtk=>⟨.bl b,H,I.tok _,rfl,q⟩
def ES(l:List Nat):It:=⟨λi _=>i<l.length,λi H x H'=>H'=H/\∃c,l[i]? =some c/\x=.str (sOf [c]),λi _=>l.length<=i⟩
def C4(tl:TE):TI:=λY H R=>tl Y H λx H1=>∃l,x=.str (sOf l)/\R (ES l) H1
end
theorem vJ{P:GQ}{w:Ha}{K:Gp}{tg:Expr}(l:List Nat)(it:Addr)(ty:String)(t:Tok)(hty:ty="str_ascii_iterator"\/ty="str_iterator")
  (W:∀A':Hf,A'.handled=none->Walks P w A' it [it] [it] l.length (SignAt<|sOf l) (λi h=>h.IsStrIter it ty (sOf l) t i)):
  Turn P w K tg (ES l) [it] it (λi h=>i<=l.length/\h.IsStrIter it ty (sOf l) t i) where
 mem:=by simp
 obj:=λi h st b hb=>by
  have e:b=it:=by simpa using hb
  subst e;obtain⟨_,o,e,c,d⟩:=st;exact⟨o,e,λv z=>by rw[d]at z;cases z⟩
 keep:=λi h h' st k=>⟨st.1,by obtain⟨o,e,r⟩:=st.2;exact⟨o,k it (by simp) o e,r⟩⟩
 item:=by
  intro X hP hw hK hc i Z_ s Y H E I hf st hg;subst hP hw hK;obtain⟨f0,f1,f2,f3,f4,f5⟩:=hf it (by simp);refine(W X.A<|I.ok.hd hc).item i s _ _ hg st.2 λv h' tk hv st' kk=>?_;obtain⟨c,u,hc',rfl⟩:=hv;have I1:Inv X Z_ Y H {s with heap:=h',toks:=tk}:=I.turned (λb o hb e=>kk b o (by simpa using hb) e) f0 f1 f3 f4 f5;obtain⟨o,e,c1,d⟩:=id st';refine⟨_,rfl,oO (s:={s with heap:=h',toks:=tk}) (n:=ty) e c1 d (by rcases hty with rfl|rfl<;>decide) ⟨.str<|sOf [c],H,I1,⟨u,rfl⟩,⟨rfl,c,?_,rfl⟩,⟨hg,st'⟩,λb hb=>(hf b hb).1⟩⟩;simpa [sOf] using hc'
 done:=by
  intro X hP hw hK hc i Z_ s Y H E I hf st hg;subst hP hw hK;obtain⟨f0,f1,f2,f3,f4,f5⟩:=hf it (by simp);have e:i=l.length:=Nat.le_antisymm st.1 hg;subst e;exact(W X.A<|I.ok.hd hc).done s _ _ st.2 λh' tk kk=>⟨rfl,I.turned (λb o hb e=>kk b o (by simpa using hb) e) f0 f1 f3 f4 f5⟩
 self:=λA i s Q E st h=>by
  rcases hty with rfl|rfl;·exact wpAny_pyIter_striter_ascii st.2 h
  ·exact wpAny_pyIter_striter_wide st.2 h
theorem iS{X:Cx}{tg l:Expr}{tl:TE}(hl:PE X l tl):PI X tg l (C4 tl):=by
 intro Z_ s Y H R I h;refine cG (hl Z_ s Y H _ I h) λv s1 zz=>?_;obtain⟨x,H1,I1,r1,q1⟩:=zz;obtain⟨y,e,q⟩:=q1;subst e;obtain⟨t,rfl⟩:=r1;have hn:(sOf y).cps.size=y.length:=by simp[sOf]
 have fin:∀(ob:Obj)(ty:String),(ty="str_ascii_iterator"\/ty="str_iterator")->(∀A':Hf,A'.handled=none->Walks X.prog X.w A' s1.heap.objs.size [s1.heap.objs.size] [s1.heap.objs.size] y.length (SignAt<|sOf y) (λi h=>h.IsStrIter s1.heap.objs.size ty (sOf y) t i))->
   (s1.heap.push ob).IsStrIter s1.heap.objs.size ty (sOf y) t 0->Ep X Z_ Y tg R (.ref s1.heap.objs.size) {s1 with heap:=s1.heap.push ob}:=λob ty hty W st=>by
  refine⟨s1.heap.objs.size,[s1.heap.objs.size],_,_,H1,rfl,I1.kept (t':=s1.toks) λb o e=>Gu _ e,vJ y _ ty t hty W,⟨Kp _,st⟩,λb hb=>?_,q⟩;have e:b=s1.heap.objs.size:=by simpa using hb
  subst e;exact I1.fpOk (GO _)<|I1.hok.fresh<|GO _
 cases ha:(sOf y).cps.all (· <128);·exact Nz ha<|fin _ "str_iterator" (.inr rfl) (λA' hA=>hn▸Walks.strWide hA _ (sOf y) t) ⟨_,GA _ rfl,rfl,rfl⟩
 ·exact Na ha<|fin _ "str_ascii_iterator" (.inl rfl) (λA' hA=>hn▸Walks.strAscii hA _ (sOf y) t) ⟨_,GA _ rfl,rfl,rfl⟩
def du(env:Env):List (Str×JE)->List (Str×Addr)->List (Str×Addr)
 | [],acc=>acc
 |(n,k)::r,acc=>du env r (if(k== .free)=true then(n,(env.cells.lookup n).getD 0)::acc else acc)
theorem gb{scope:JH}{env:Env}(h:∀x∈scope.names,x.2=.free->∃c,env.cells.lookup x.1=some c):closureFor scope env=pure (du env scope.names []):=by
 simp only[closureFor];have key:∀(names:List (Str×JE))(acc:List (Str×Addr)),(∀x∈names,x.2=.free->∃c,env.cells.lookup x.1=some c)->
   (forIn names acc λ(x:Str×JE)(cs:List (Str×Addr))=>if(x.2== .free)=true then(do let a <-cellOf env x.1;pure (JS ((x.1,a)::cs)))else pure (JS cs))=(pure (du env names acc):Sem _):=by
  intro names
  induction names with
  |nil=>intro acc _;rfl
  |cons x r ih=>
   intro acc hx;obtain⟨n,k⟩:=x;rw[Ki];have hr:∀y∈r,y.2=.free->∃c,env.cells.lookup y.1=some c:=λy hy=>hx y<|GB _ hy;unfold du;by_cases hk:(k==Ie)=true
   ·obtain⟨c,hc⟩:=hx (n,k) GD (by simpa using hk);have hc:env.cells.lookup n=some c:=hc;simp only[hk,if_true];unfold cellOf;simp only[hc,JF];exact ih _ hr
   ·simp only[hk,if_false];exact ih _ hr
 have:=key scope.names [] h;rw[this];rfl
theorem hJ{env:Env}{x:Str}{c:Addr}:∀(names:List (Str×JE))(acc:List (Str×Addr)),(∀y∈names,y.2=.free->∃c,env.cells.lookup y.1=some c)->(du env names acc).lookup x=some c->
  ((x,Ie)∈names/\env.cells.lookup x=some c)\/acc.lookup x=some c
 | [],_,_,h=>.inr h
 |(n,k)::r,acc,hx,h=>by
  unfold du at h;rcases hJ r _ (λy hy=>hx y<|GB _ hy) h with⟨q1,q2⟩|q
  ·exact .inl ⟨GB _ q1,q2⟩
  ·by_cases hk:(k == Ie)=true
   ·rw[Z1 hk]at q;have hk':k=.free:=by simpa using hk
    subst hk';rw[IM]at q;cases hb:x==n with
    |true=>
     rw[hb]at q;have e:x=n:=beq_iff_eq.mp hb;subst e;obtain⟨c',hc⟩:=hx (x,.free) GD rfl;have hc:env.cells.lookup x=some c':=hc;rw[hc]at q;simp at q;subst q;exact .inl ⟨GD,hc⟩
    |false=>rw[hb]at q;exact .inr q
   ·rw[Z2 hk]at q;exact .inr q
theorem kf{env:Env}{x:Str}{c:Addr}:∀(names:List (Str×JE))(acc:List (Str×Addr)),acc.lookup x=some c->env.cells.lookup x=some c->(du env names acc).lookup x=some c
 | [],_,h,_=>h
 |(n,k)::r,acc,h,he=>by
  unfold du;refine kf r _ ?_ he;by_cases hk:(k==Ie)=true
  ·rw[Z1 hk,IM];cases hb:x==n with
   |true=>
    have e:x=n:=beq_iff_eq.mp hb;subst e;simp[he]
   |false=>exact h
  ·rw[Z2 hk];exact h
theorem kg{env:Env}{x:Str}{c:Addr}:∀(names:List (Str×JE))(acc:List (Str×Addr)),(x,Ie)∈names->env.cells.lookup x=some c->(du env names acc).lookup x=some c
 |(n,k)::r,acc,h,he=>by
  unfold du;rcases GK.mp h with e|h
  ·cases e;exact kf r _ (by simp[he]) he
  ·exact kg r _ h he
theorem dA:∀(names:List (Str×JE))(n:Nat)(acc:List (Str×Addr)),cellsFrom n names acc=cellsFrom n names []++acc
 | [],_,_=>rfl
 |(x,k)::r,n,acc=>by
  unfold cellsFrom;split;·rw[dA r _ ((x,n)::acc),dA r _ [(x,n)],J8];rfl
  ·exact dA r n acc
theorem ft:∀(names:List (Str×JE))(n:Nat){x:Str}{c:Addr},(x,c)∈cellsFrom n names []->(x,MZ)∈names
 | [],_,_,_,h=>by cases h
 |(y,k)::r,n,x,c,h=>by
  unfold cellsFrom at h;split at h
  ·rename_i hk;rw[dA]at h;rcases Io.mp h with h|h
   ·exact GB _<|ft r _ h
   ·have e:(x,c)=(y,n):=by simpa using h
    cases e;have hk':k=.cell:=by simpa using hk
    subst hk';exact GD
  ·exact GB _<|ft r _ h
theorem qJ{M:Oh}{A:Hf}{E:Gv->Gw->Prop}{s:Gw}{scope:JH}{env:Env}{cl:List (Str×Addr)}{Q:Env->Gw->Prop}
  (hQ:Q (newEnv scope s.heap.objs.size env.globals (cellsFrom (s.heap.objs.size+1) scope.names cl) env.qual none .none (some env) builtinsNs) {s with heap:=pushCells (s.heap.push {cls:=.type "dict",data:=.dict #[]}) scope.names}):
  wpAny M A (newFunctionEnv scope env.globals cl [] env.qual none .none<|some env) Q E s:=by
 simp only[newFunctionEnv,N9,if_true];refine Gn<|wpAny_alloc ?_;refine Gn (wpAny_layCells _ (λname kind cells=>by cases hkc:kind==MZ<;>simp[hkc]) _ _ _ _ ?_);rw[show({s with heap:=s.heap.push {cls:=.type "dict",data:=.dict #[]}}:Gw).heap.objs.size=s.heap.objs.size+1 from Hz ..];simp only[KA];exact Gn<|Gy<|Gy hQ
section
variable{prog:GQ}{w:Ha}{A:Hf}{R:Q2->Gw->Prop}{s:Gw}
theorem nU{Z4 target Z3:Expr}{ifs:List Expr}{scope:JH}{pos:Pos}{it acc:Gv}{env:Env}(I:Nat->Gw->Prop)
  (turn:∀n s,I n s->wpAny (model prog w) A (pyNext it) (λr s₁=>match r with
   |none=>R (.ok .next) s₁
   | some v=>wpAny (model prog w) A (letOwnedTupleGo target it v) (λ_ s₁'=>wpAny (model prog w) A (assign target env v) (λ_ s₂=>
     wpAny (model prog w) A (forIn ifs true λc r=>if r=true then do let ok <-isTrue c env (eval c env);pure (JS ok)else pure (JS r)) (λok s₃=>
      if ok=true then wpAny (model prog w) A (eval Z4 env) (λx s₄=>
       wpAny (model prog w) A (call (.builtin "list.append") [acc,x]) (λ_ s₅=>∃m,m<n/\I m s₅) (λ_ _=>False) s₄) (λ_ _=>False) s₃
      else ∃m,m<n/\I m s₃) (λ_ _=>False) s₂) (λ_ _=>False) s₁') (λ_ _=>False) s₁) (λ_ _=>False) s)
  (n:Nat) (h:I n s):codeAny (model prog w) A (.compLoop (.ListComp Z4 [⟨target,Z3,ifs,0⟩] scope pos) 0 it acc env) R s:=by
 refine codeAny_loop rfl I (λn s hI=>?_) n h;show wpAny _ A ((compTurn (.ListComp Z4 [⟨target,Z3,ifs,0⟩] scope pos) 0 it acc env).onRaise (λx=>do noteFrame x env;theTreesLotGoes x)) _ _ s;refine wpAny_noted ?_;rw[compTurn_list];refine Gn<|LZ<|Gn<|Iw (turn n s hI) (λr s₁ h₁=>?_) λ_ _ h'=>h'.elim;cases r with
 |none=>exact Gy h₁
 |some v=>
  refine Gn<|Iw h₁ (λ_ s₁' h₁'=>?_) λ_ _ h'=>h'.elim;refine Gn<|Iw h₁' (λ_ s₂ h₂=>Gn<|Iw h₂ (λok s₃ h₃=>?_) λ_ _ h'=>h'.elim) λ_ _ h'=>h'.elim;cases ok with
  |true=>
   rw[Z1 rfl]at h₃;exact Gn<|Gn<|Iw h₃ (λx s₄ h₄=>Gn<|Iw h₄ (λ_ s₅ h₅=>Gy<|Gy ⟨rfl,h₅⟩) λ_ _ h'=>h'.elim) λ_ _ h'=>h'.elim
  |false=>
   rw[Z2 GN]at h₃;exact Gy ⟨rfl,h₃⟩
end
def vK(scope:JH)(x:Str):Bool:=scope.names.lookup x==some .local||scope.names.lookup x==some .cell
def bD(X:Cx)(scope:JH)(N:List Str)(s:Gw)(H:Hp)(C:Addr)(fp:List Addr):Cx:=
 {X with N:=N,s₀:=s,H₀:=H,env:=compEnvC scope (cellsFrom (C+1) scope.names<|du X.env scope.names []) C X.env,outer:=X.stack,ex:=fp,fn:=vK scope,pn:=[],xe:=λ_ _=>False}
def bI(cap:List (Option Nat))(Y:St):St:=cap.map λo=>o.bind λj=>(Y[j]?).bind id
structure CompScope(X:Cx)(scope:JH)(N:List Str)(cap:List (Option Nat)):Prop where
 kind:scope.kind=.function
 nd:N.Nodup
 len:cap.length=N.length
 uniq:(scope.names.map (·.1)).Nodup
 free:∀x∈scope.names,x.2=.free->(X.env.kindOf x.1=some .cell\/X.env.kindOf x.1=some .free)
 cap:∀(k:Nat)(x:Str)(j:Nat),N[k]? =some x->cap[k]? =some (some j)->X.N[j]? =some x/\(x,Ie)∈scope.names
theorem dX{O:Type}:∀{l:List (Str×O)}{x:Str}{k:O},(l.map (·.1)).Nodup->(x,k)∈l->l.lookup x=some k
 |(y,j)::r,x,k,nd,h=>by
  obtain⟨n1,n2⟩:=HQ.mp (show(y::r.map (·.1)).Nodup from nd);rw[IM];rcases GK.mp h with e|h;·cases e;simp
  ·have:(x == y)=false:=beq_eq_false_iff_ne.mpr λe=>n1<|e▸GL.mpr ⟨(x,k),h,rfl⟩;rw[this];exact dX n2 h
theorem fJ{env:Env}:∀{names:List (Str×JE)}{x:Str},(names.map λ(p:Str×JE)=>if(p.2==Ie&&env.scope.kind== .function&&env.kindOf p.1==some .cell)=true then(p.1,MZ)else(p.1,p.2)).lookup x=
  (names.lookup x).map λk=>if(k==Ie&&env.scope.kind== .function&&env.kindOf x==some .cell)=true then .cell else k
 | [],_=>rfl
 |(n,k)::r,x=>by
  rw[Hs];have ih:= @fJ env r x;by_cases hx:x=n
  ·subst hx;by_cases hc:(k==Ie&&env.scope.kind== .function&&env.kindOf x==some .cell)=true;·simp only[hc,if_true,IM,beq_self_eq_true,Lg]
   ·rw[Z2 hc,IM,IM,beq_self_eq_true];simp only[Lg];rw[Z2 hc]
  ·have hb:(x == n)=false:=beq_eq_false_iff_ne.mpr hx;by_cases hc:(k==Ie&&env.scope.kind== .function&&env.kindOf n==some .cell)=true;·simp only[hc,if_true,IM,hb];exact ih
   ·rw[Z2 hc,IM,IM,hb];exact ih
def BD(X:Cx)(ifs:List Expr)(t:TT):Prop:=
 ∀(Z_:List (Addr×Obj))(s:Gw)(Y:St)(H:Hp)(Q:Bool->Hp->Prop),Inv X Z_ Y H s->t Y H Q->
  wpAny (model X.prog X.w) X.A (forIn ifs true λc r=>if r=true then do let ok <-isTrue c X.env (eval c X.env);pure (JS ok)else pure (JS r)) (TP X Z_ Y Q) X.xe s
def AK:TT:=λ_ H Q=>Q true H
theorem cn{X:Cx}:BD X [] AK:=λ_ _ _ H _ I h=>wpAny_tests_nil ⟨H,I,h⟩
theorem kM{X:Cx}{c:Expr}{t:TT}(h:PT X c t):BD X [c] t:=λZ_ s Y H Q I hq=>wpAny_tests_one<|h Z_ s Y H Q I hq
def Keep:St->St->Prop
 | [],_=>True
 |none::a,_::b=>Keep a b
 |some v::a,some u::b=>v=u/\Keep a b
 |_,_=>False
theorem Keep.get:∀{a b:St}{j:Nat}{v:V},Keep a b->a[j]? =some (some v)->b[j]? =some (some v)
 | [],_,_,_,_,h=>by simp at h
 |none::a,_::b,0,_,_,h=>by simp at h
 |none::a,_::b,j+1,v,k,h=>Keep.get (j:=j) (a:=a) (b:=b) k h
 |some w::a,some u::b,0,v,k,h=>by
  have e:w=u:=k.1;subst e;exact h
 |some w::a,some u::b,j+1,v,k,h=>Keep.get (j:=j) (a:=a) (b:=b) k.2 h
 |none::_,[],_,_,k,_=>k.elim
 |some _::_,[],_,_,k,_=>k.elim
 |some _::_,none::_,_,_,k,_=>k.elim
def C5(cap:List (Option Nat))(g:TG)(tf:TT)(te:TE)(Y:St)(H1:Hp)(Q:VK)(J:It):Prop:=∃W:Nat->Nat->List V->Hp->Prop,(∃m,W 0 m [] H1)/\∀i m ys H,W i m ys H->ys.length<sizeLine/\
  ((J.stop i H/\∀D,H D=none->Q (.ref D) (cN H D<|.lst ys))\/
   (J.go i H/\∃N:List V->Hp->Prop,(∀ys' H',N ys' H'->∃m',m'<m/\W (i+1) m' ys' H')/\∀x H',J.yld i H x H'->g x (bI cap Y) H' λσ2 H2=>Keep (bI cap Y) σ2/\tf σ2 H2 λb H3=>if b=true then te σ2 H3 λy H4=>N (ys++[y]) H4 else N ys H3))
def lA(cap:List (Option Nat))(wi:TI)(g:TG)(tf:TT)(te:TE):TE:=λY H Q=>wi Y H λJ H1=>C5 cap g tf te Y H1 Q J
theorem eF{X:Cx}{scope:JH}{C:Addr}{x:Str}{c:Addr}(frc:∀x∈scope.names,x.2=.free->∃c,X.env.cells.lookup x.1=some c)
  (h:(cellsFrom (C+1) scope.names<|du X.env scope.names []).lookup x=some c):(x,c)∈cellsFrom (C+1) scope.names []\/((x,Ie)∈scope.names/\X.env.cells.lookup x=some c):=by
 rw[dA,Nb]at h;cases e:(cellsFrom (C+1) scope.names []).lookup x with
 |some d=>
  rw[e]at h;have h:some d=some c:=h;cases h;exact .inl<|Iy e
 |none=>
  rw[e]at h;have h:(du X.env scope.names []).lookup x=some c:=h;rcases hJ _ _ frc h with q|q
  ·exact .inr q
  ·cases q
theorem pf{X:Cx}{scope:JH}{C:Addr}{x:Str}{c:Addr}(uq:(scope.names.map (·.1)).Nodup)(hx:(x,Ie)∈scope.names)(hc:X.env.cells.lookup x=some c):
  (cellsFrom (C+1) scope.names<|du X.env scope.names []).lookup x=some c:=by
 rw[dA,Nb];cases e:(cellsFrom (C+1) scope.names []).lookup x with
 |some d=>
  have h1:=dX uq<|ft _ _<|Iy e;have h2:=dX uq hx;rw[h1]at h2;cases h2
 |none=>exact kg _ _ hx hc
section
variable{X:Cx}{scope:JH}{N:List Str}{cap:List (Option Nat)}{Z_:List (Addr×Obj)}{Y:St}{H:Hp}{s:Gw}{C:Addr}{fp:List Addr}
theorem tM{h4:Heap}(S:CompScope X scope N cap)(I:Inv X Z_ Y H s)(hC:s.heap.objs.size<=C)(ck:CellsOk h4 (C+1) (cellsFrom (C+1) scope.names []))
  (hf:∀b∈fp,FpOk X Z_ H b) (hlt:∀b∈fp,b<C):(bD X scope N s H C fp).Ok:=by
 have frc:∀x∈scope.names,x.2=.free->∃c,X.env.cells.lookup x.1=some c:=λx hx hk=>I.ok.has x.1<|S.free x hx hk;have old:∀x c,X.env.cells.lookup x=some c->c<C:=λx c e=>by
  obtain⟨v,q⟩:=I.cell x c e;exact GC q.lt hC
 have own:∀x c,(x,c)∈cellsFrom (C+1) scope.names []->C<c:=λx c e=>(ck.empty x c e).2;refine⟨I.ok.mod,S.kind,I.ok.glob,I.ok.blt,hC,λx y c h1 h2=>?_,λx hx=>?_,λx c hfn h=>?_,I.ok.hd,I.ok.frames,.inl rfl,λb hb=>⟨GV<|hlt b hb,λx c h=>?_⟩,I.bs,HB I.ok.bsz I.sz,λb o e hb=>?_,λb hb z=>?_,I.stack,I.stkFree⟩
 ·rcases eF frc h1 with a | ⟨a1,a2⟩ <;> rcases eF frc h2 with b | ⟨b1,b2⟩
  ·exact name_of_addr ck.apart a b
  ·exact absurd (Mg (own x c a)<|old y c b2)<|Hx _
  ·exact absurd (Mg (own y c b)<|old x c a2)<|Hx _
  ·exact I.ok.inj x y c a2 b2
 ·have hx:(relabel scope X.env).names.lookup x=some .cell\/(relabel scope X.env).names.lookup x=some .free:=hx;have e:(relabel scope X.env).names.lookup x=_:=fJ (env:=X.env) (names:=scope.names) (x:=x);rw[e]at hx;cases q:scope.names.lookup x with
  |none=>rw[q]at hx;rcases hx with z|z<;>cases z
  |some k=>
   have hm:=Iy q;by_cases hk:k=.free
   ·subst hk;obtain⟨c,hc⟩:=frc _ hm rfl;exact⟨c,pf S.uniq hm hc⟩
   ·have hk':(k == Ie)=false:=by simpa using hk
    rw[q]at hx;simp only[Lg,hk',MH,HY,if_false]at hx;have hkc:k=.cell:=by
     rcases hx with z|z;·exact Hl z
     ·exact absurd (Hl z) hk
    subst hkc;exact Jx.mp<|JM scope.names (C+1) _<|.inl q
 ·rcases eF frc h with a | ⟨a1,a2⟩
  ·exact HB hC<|Ka<|own x c a
  ·have q:=dX S.uniq a1;have z:vK scope x=true:=hfn;unfold vK at z;rw[q]at z;exact absurd z ⋯
 ·rcases eF frc h with a | ⟨a1,a2⟩
  ·exact Jg<|Mg (hlt b hb)<|own x c a
  ·exact(hf b hb).2.2.2.2.1 x c a2
 ·rcases (hf b hb).2.2.2.1 with z | z;·exact I.ok.noex b o e z
  ·exact absurd (GC (GC (GF e) I.ok.bsz) z)<|Hx _
 ·rcases GK.mp (I.stkSub b z)with q | q;·exact(hf b hb).2.1 q
  ·exact(hf b hb).2.2.1 q
theorem qK{s4:Gw}(S:CompScope X scope N cap)(I:Inv X Z_ Y H s)(hC:s.heap.objs.size<=C)(ck:CellsOk s4.heap (C+1) (cellsFrom (C+1) scope.names []))
  (hf:∀b∈fp,FpOk X Z_ H b) (hlt:∀b∈fp,b<C) (h4:∃h' tk,s4={s with heap:=h',toks:=tk}) (hn:s4.heap.Ns C λ_=>none) (hk:∀b o,s.heap.get? b=some o->s4.heap.get? b=some o):
  Inv (bD X scope N s H C fp) [] (bI cap Y) H s4:=by
 have frc:∀x∈scope.names,x.2=.free->∃c,X.env.cells.lookup x.1=some c:=λx hx hk=>I.ok.has x.1<|S.free x hx hk;obtain⟨h',tk,rfl⟩:=h4;refine⟨tM S I hC ck hf hlt,rfl,I.bare,Un.kept hk,⟨_,hn,λi x v e1 e2 e3=>?_⟩,λx c h=>?_,I.hok.fresh hC,λx c h=>?_,λp hp=>absurd (show p∈([]:List (Addr×Obj))from hp) (by simp),I.hok.kept hk,?_⟩
 ·have e1:N[i]? =some x:=e1;unfold bI at e2;rw[Hd]at e2;cases q:cap[i]? with
  |none=>rw[q]at e2;cases e2
  |some o=>
   cases o with
   |none=>rw[q]at e2;cases e2
   |some j=>
    rw[q]at e2;obtain⟨hj,hm⟩:=S.cap i x j e1 q;have e2:Y[j]?.bind id=some v:=Hl e2;have e2':Y[j]? =some (some v):=by
     cases z:Y[j]? with
     |none=>rw[z]at e2;cases e2
     |some o=>rw[z]at e2;exact congrArg some e2
    have kd:=S.free _ hm rfl;obtain⟨m,_,hl⟩:=I.loc;obtain⟨u,r,lk⟩:=hl j x v hj e2' (by rcases kd with z|z;exact .inr<|.inl z;exact .inr<|.inr z);refine⟨u,r,.inr ?_⟩;rcases lk with⟨z,_⟩|⟨_,c,hc,hcell⟩
    ·rcases kd with q|q<;> ·rw[show X.env.kindOf x=_ from q]at z;cases z
    ·refine⟨?_,c,pf S.uniq hm hc,hcell.keeps hk⟩;have e:(relabel scope X.env).names.lookup x=_:=fJ (env:=X.env) (names:=scope.names) (x:=x);rw[dX S.uniq hm]at e;simp only[Lg]at e;show(relabel scope X.env).names.lookup x=some .cell\/(relabel scope X.env).names.lookup x=some .free;rw[e];split;·exact .inl rfl
     ·exact .inr rfl
 ·rcases eF frc h with a | ⟨a1,a2⟩
  ·exact⟨_,(ck.empty x c a).1⟩
  ·obtain⟨v,q⟩:=I.cell x c a2;exact⟨v,q.keeps hk⟩
 ·rcases eF frc h with a | ⟨a1,a2⟩
  ·exact I.hok.fresh<|HB hC<|Ka (ck.empty x c a).2
  ·exact I.freeC x c a2
 ·show(bI cap Y).length=N.length;unfold bI;rw[GR,S.len]
end
abbrev iT(its:List Gv)(k:Nat):Obj:={cls:=.type "list",data:=.seq its.toArray k}
section
variable{X:Cx}{scope:JH}{N:List Str}{cap:List (Option Nat)}{tg Z3 Z4:Expr}{ifs:List Expr}{pos:Pos}{wi:TI}{g:TG}{tf:TT}{te:TE}
structure TurnX(X:Cx)(tg:Expr)(g:TG)(J:It)(fp:List Addr)(it:Addr)(tn:Nat->Heap->Prop):Prop where
 obj:∀i h,tn i h->∀b∈fp,∃o,h.get? b=some o/\∀v,o.data≠.cell v
 keep:∀i h h',tn i h->(∀b∈fp,∀o,h.get? b=some o->h'.get? b=some o)->tn i h'
 self:∀(A:Hf)(i:Nat)(s:Gw)(Q:Gv->Gw->Prop)(E:Gv->Gw->Prop),tn i s.heap->Q (.ref it) s->wpAny (model X.prog X.w) A (pyIter<|.ref it) Q E s
 item:∀(i:Nat)(Z_:List (Addr×Obj))(s:Gw)(Y:St)(H:Hp)(E:Gv->Gw->Prop),Inv X Z_ Y H s->(∀b∈fp,FpOk X Z_ H b)->tn i s.heap->J.go i H->wpAny (model X.prog X.w) X.A (pyNext<|.ref it) (λr s1=>∃u,r=some u/\wpAny (model X.prog X.w) X.A (letOwnedTupleGo tg (.ref it) u) (λ_ s2=>∃x H',Inv X Z_ Y H' s2/\RelV x u/\J.yld i H x H'/\tn (i+1) s2.heap/\∀b∈fp,H' b=none) E s1) E s
 done:∀(i:Nat)(Z_:List (Addr×Obj))(s:Gw)(Y:St)(H:Hp)(E:Gv->Gw->Prop),Inv X Z_ Y H s->(∀b∈fp,FpOk X Z_ H b)->tn i s.heap->J.stop i H->wpAny (model X.prog X.w) X.A (pyNext<|.ref it) (λr s1=>r=none/\Inv X Z_ Y H s1) E s
 tgt:PG X tg g
theorem iU(S:CompScope X scope N cap)(hf:∀s H C fp,BD (bD X scope N s H C fp) ifs tf)(he:∀s H C fp,PE (bD X scope N s H C fp) Z4 te)
  {Z_:List (Addr×Obj)} {Y:St} {H2:Hp} {s2:Gw} {it:Addr} {fp:List Addr} {tn:Nat->Heap->Prop} {J:It} {Qv:VK} {E:Gv->Gw->Prop} {RR:Gv->Addr->Q2->Gw->Prop}
  (I2:Inv X Z_ Y H2 s2) (T:∀C,TurnX (bD X scope N s2 H2 C fp) tg g J fp it tn) (st2:tn 0 s2.heap) (f2:∀b∈fp,FpOk X Z_ H2 b) {W:Nat->Nat->List V->Hp->Prop} (w0:∃m,W 0 m [] H2)
  (turn:∀i m ys H,W i m ys H->ys.length< sizeLine/\((J.stop i H/\∀D,H D=none->Qv (.ref D) (cN H D<|.lst ys))\/
   (J.go i H/\∃N:List V->Hp->Prop,(∀ys' H',N ys' H'->∃m',m'<m/\W (i+1) m' ys' H')/\∀x H',J.yld i H x H'->g x (bI cap Y) H' λσ2 H2=>Keep (bI cap Y) σ2/\tf σ2 H2 λb H3=>if b=true then te σ2 H3 λy H4=>N (ys++[y]) H4 else N ys H3)))
  (fin:∀(D C:Addr) (σ':St) (H':Hp) (s':Gw) (its:List Gv) (k:Nat) (ys:List V),s2.heap.objs.size<=D->s2.heap.objs.size<=C->D≠C->Inv (bD X scope N s2 H2 C fp) [(D,iT its k)] σ' H' s'->Vals ys its->ys.length<=sizeLine->
   Qv (.ref D) (cN H' D (.lst ys))->RR (.ref D) C (.ok .next) s'):
  wpAny (model X.prog X.w) X.A (newList []) (λacc s₃=>wpAny (model X.prog X.w) X.A (newFunctionEnv scope X.env.globals (du X.env scope.names []) [] X.env.qual none .none<|some X.env) (λcenv s₄=>
   codeAny (model X.prog X.w) X.A (.compStart (.ListComp Z4 [⟨tg,Z3,ifs,0⟩] scope pos) 0 (.ref it) acc {cenv with scope:=relabel scope X.env}) (RR acc cenv.locals) s₄) E s₃) E s2:=by
 refine IE<|qJ ?_;generalize hD:s2.heap.objs.size=D;generalize hH3:s2.heap.push {cls:=.type "list",dict:=none,data:=.seq ([]:List Gv).toArray}=h3;have hz3:h3.objs.size=D+1:=by rw[<-hH3,Hz,hD]
 dsimp only;have eC:({s2 with heap:=h3}:Gw).heap.objs.size=D+1:=hz3;rw[show h3.objs.size=D+1 from hz3];generalize hH4:pushCells (h3.push {cls:=.type "dict",data:=.dict #[]}) scope.names=h4;have hz3':(h3.push {cls:=.type "dict",data:=.dict #[]}).objs.size=D+1+1:=by rw[Hz,hz3]
 have ck:CellsOk h4 (D+1+1) (cellsFrom (D+1+1) scope.names []):=by
  have:=cellsFrom_ok scope.names (h3.push {cls:=.type "dict",data:=.dict #[]}) (D+1+1) [] ⟨λ_ _ hm=>(nomatch hm),Ny⟩ (by rw[hz3'];exact GO _);rw[hz3',hH4]at this;exact this
 have a1:∀b o,s2.heap.get? b=some o->h3.get? b=some o:=λb o e=>by rw[<-hH3];exact Gu _ e
 have a0:∀b o,h3.get? b=some o->h4.get? b=some o:=λb o e=>by rw[<-hH4];exact Ob _ _ b o<|Gu _ e
 have hD4:h4.get? D=some (iT [] 0):=a0 _ _ (by rw[<-hH3,<-hD];exact GA _ rfl);have hn4:h4.Ns (D+1) λ_=>none:=by
  rw[<-hH4,<-hz3];exact(Heap.Ns.new h3<|.type "dict").keeps (Ob _ _)
 have fpD:∀b∈fp,b<D:=λb hb=>by
  obtain⟨o,e,_⟩:=(T 0).obj _ _ st2 b hb;rw[<-hD];exact GF e
 have hlt:∀b∈fp,b<D+1:=λb hb=>NA<|fpD b hb;have hDC:s2.heap.objs.size<=D+1:=by rw[hD];exact MJ _
 have hDs:s2.heap.objs.size<=D:=by rw[hD];exact GO _
 have IC:Inv (bD X scope N s2 H2 (D+1) fp) [] (bI cap Y) H2 {s2 with heap:=h4}:=
  qK S I2 hDC ck f2 hlt ⟨_,_,rfl⟩ hn4 λb o e=>a0 b o<|a1 b o e
 have okC:=IC.ok;have nfs:∀{b:Addr},s2.heap.objs.size<=b->b∉frs X.stack:=λ{b}hb hm=>by
  obtain⟨_,o,ho,_⟩:=I2.stack.mem hm;exact absurd (GC (GF ho) hb)<|Hx _
 have frc:∀x∈scope.names,x.2=.free->∃c,X.env.cells.lookup x.1=some c:=λx hx hk=>I2.ok.has x.1<|S.free x hx hk;have cellsD:∀x c,(bD X scope N s2 H2 (D+1) fp).env.cells.lookup x=some c->c≠D:=λx c e=>by
  rcases eF frc e with a|⟨_,a⟩
  ·have q:D+1+1<=c:=(ck.empty x c a).2;exact Jg<|GC (GC (JD D)<|MJ _) q
  ·obtain⟨v,q⟩:=I2.cell x c a;have:=q.lt;rw[hD]at this;exact GV this
 have fpO:∀{H':Hp}{its:List Gv}{k:Nat},(∀b∈fp,H' b=none)->∀b∈fp,FpOk (bD X scope N s2 H2 (D+1) fp) [(D,iT its k)] H' b:=λ{H' its k}hn b hb=>
  ⟨hn b hb,GV<|hlt b hb,okC.exfs b hb,.inl hb,(okC.exf b hb).2,λp hp=>by
   have e:p=(D,iT its k):=by simpa [bD] using hp
   subst e;exact Jg (fpD b hb)⟩
 have pinD:∀{σ':St}{H':Hp}{s':Gw}{its:List Gv}{k:Nat},Inv (bD X scope N s2 H2 (D+1) fp) [] σ' H' s'->s'.heap.get? D=some (iT its k)->H' D=none->Inv (bD X scope N s2 H2 (D+1) fp) [(D,iT its k)] σ' H' s':=λ{σ' H' s' its k}J e n=>
  J.pins_of λp hp=>by
   have e':p=(D,iT its k):=by simpa using hp
   subst e';exact⟨e,n,GV<|JD _,nfs hDs,λv z=>by
    have z':MM its.toArray k=Kb v:=z;cases z'⟩
 have loop:codeAny (model X.prog X.w) X.A (.compLoop (.ListComp Z4 [⟨tg,Z3,ifs,0⟩] scope pos) 0 (.ref it) (.ref D) (bD X scope N s2 H2 (D+1) fp).env) (RR (.ref D)<|D+1) {s2 with heap:=h4}:=by
  obtain⟨m0,w0⟩:=w0;refine nU (λn s'=>∃i ys its k σ' H',Inv (bD X scope N s2 H2 (D+1) fp) [(D,iT its k)] σ' H' s'/\tn i s'.heap/\(∀b∈fp,H' b=none)/\Vals ys its/\(∀(j:Nat)(v:V),(bI cap Y)[j]? =some (some v)->σ'[j]? =some (some v))/\W i n ys H') ?_ m0
   ⟨0,[],[],0,bI cap Y,H2,pinD IC hD4<|I2.hok.fresh hDs,(T 0).keep _ _ _ st2 λb hb o e=>a0 b o<|a1 b o e,λb hb=>(f2 b hb).1,.nil,λ_ _ e=>e,w0⟩
  rintro n s3 ⟨i,ys,its,k,σ3,H3,I3,st3,fr3,rv,kp,w3⟩;obtain⟨hyl,tr⟩:=turn i n ys H3 w3;have pin3:=I3.pin (D,iT its k)<|HE _ GD;rcases tr with⟨stop,qn⟩|⟨go,NN,hNN,step⟩
  ·refine cG ((T _).done i _ s3 σ3 H3 _ I3 (fpO fr3) st3 stop) λr s4 zz=>?_;obtain⟨hr,I4⟩:=zz;subst hr;exact fin D (D+1) σ3 H3 s4 its k ys hDs hDC (GV<|JD _) I4 rv (Ka hyl)<|qn D pin3.2.1
  ·have I3':Inv (bD X scope N s2 H2 (D+1) fp) [(D,iT its k)] (bI cap Y) H3 s3:=I3.weak (by rw[I3.len,IC.len]) kp;refine cG ((T _).item i _ s3 _ H3 _ I3' (fpO fr3) st3 go) λr s4 zz=>?_;obtain⟨u,hr,h4⟩:=zz;subst hr;refine cG h4 λ_ s5 zz=>?_;obtain⟨x,H5,I5,r5,y5,st5,fr5⟩:=zz;have I5':=I5.pinned (fpO fr5)<|(T 0).obj _ _ st5;refine cG ((T _).tgt _ s5 _ H5 x u _ I5' r5 (step x H5 y5)) λ_ s6 zz=>?_;obtain⟨σ6,H6,I6,kp6,q6⟩:=zz;refine cG (hf _ _ _ _ _ s6 σ6 H6 _ I6 q6) λok s7 zz=>?_;obtain⟨H7,I7,q7⟩:=zz;have back:∀{s8:Gw}{H8:Hp},Inv (bD X scope N s2 H2 (D+1) fp) ([(D,iT its k)]++l9 fp s5.heap) σ6 H8 s8->tn (i+1) s8.heap/\(∀b∈fp,H8 b=none)/\s8.heap.get? D=some (iT its k)/\H8 D=none:=λ{s8 H8}I8=>by
    have at_:∀b∈fp,∀o,s5.heap.get? b=some o->s8.heap.get? b=some o/\H8 b=none:=λb hb o e=>by
     have z:=I8.pin (b,o)<|HE _<|HE _<|iQ hb e;exact⟨z.1,z.2.1⟩
    have pd:=I8.pin (D,iT its k)<|HE _<|IK _ GD;refine⟨(T 0).keep _ _ _ st5 λb hb o e=>(at_ b hb o e).1,λb hb=>?_,pd.1,pd.2.1⟩;obtain⟨o,e,d⟩:=(T 0).obj _ _ st5 b hb;exact(at_ b hb o e).2
   cases ok with
   |false=>
    rw[Z2 GN]at q7 ⊢;obtain⟨m',hm,w'⟩:=hNN _ _ q7;obtain⟨t7,f7,d7,n7⟩:=back I7;exact⟨m',hm,i+1,ys,its,k,σ6,H7,I7.unpinned,t7,f7,rv,λj v e=>Keep.get kp6 e,w'⟩
   |true=>
    rw[Z1 rfl]at q7 ⊢;refine cG (he _ _ _ _ _ s7 σ6 H7 _ I7 q7) λy8 s8 zz=>?_;obtain⟨y,H8,I8,r8,q8⟩:=zz;obtain⟨m',hm,w'⟩:=hNN _ _ q8;obtain⟨t8,f8,d8,n8⟩:=back I8;refine append_at (D:=D) (its:=its.toArray) (n:=k) d8 (λh' hs' hD'=>?_) (by rw[GG,<-rv.length];exact Ka hyl);have J0:Inv (bD X scope N s2 H2 (D+1) fp) [] σ6 H8 s8:=I8.pins_of λp hp=>by cases hp
    have J1:Inv (bD X scope N s2 H2 (D+1) fp) [] σ6 H8 {s8 with heap:=h'}:=J0.turned (it:=D) (t':=s8.toks) (λb o hb e=>(hs'.2 b hb).trans e) n8 (GV<|JD _) (.inr hDs) cellsD λp hp=>by
     have:p∈([]:List (Addr×Obj)):=hp;cases this
    refine⟨m',hm,i+1,ys++[y],its++[y8],k+1,σ6,H8,pinD J1 (by simpa using hD') n8,(T 0).keep _ _ _ t8 λb hb o e=>(hs'.2 b<|GV<|fpD b hb).trans e,f8,rv.append<|.cons r8 .nil,λj v e=>Keep.get kp6 e,w'⟩
 exact codeAny_compStart_list loop<|Iw ((T 0).self _ 0 _ _ _ ((T 0).keep _ _ _ st2 λb hb o e=>a0 b o<|a1 b o e) loop) (λ_ _ h=>h) λ_ _ h=>h
theorem Turn.x{fp:List Addr}{it:Addr}{tn:Nat->Heap->Prop}{J:It}{s2:Gw}{H2:Hp}(T:Turn X.prog X.w X.K tg J fp it tn)(hc:X.calm=true)(hg:∀s H C fp,PG (bD X scope N s H C fp) tg g)(C:Addr):TurnX (bD X scope N s2 H2 C fp) tg g J fp it tn:=⟨T.obj,T.keep,T.self,T.item _ rfl rfl rfl hc,T.done _ rfl rfl rfl hc,hg _ _ _ _⟩
end
section
variable{X:Cx}{scope:JH}{N:List Str}{cap:List (Option Nat)}{tg Z3 Z4:Expr}{ifs:List Expr}{pos:Pos}{wi:TI}{g:TG}{tf:TT}{te:TE}
theorem lB{Z_:List (Addr×Obj)}{Y σ':St}{H2 H':Hp}{s2 s':Gw}{fp:List Addr}{D C:Addr}{its:List Gv}{k:Nat}{ys:List V}{h':Heap}(I2:Inv X Z_ Y H2 s2)(f2:∀b∈fp,FpOk X Z_ H2 b)
  (hD:s2.heap.objs.size<=D) (hC:s2.heap.objs.size<=C) (hDC:D≠C) (I':Inv (bD X scope N s2 H2 C fp) [(D,iT its k)] σ' H' s') (rv:Vals ys its) (hl:ys.length<=sizeLine) (hs:GW C s'.heap h'):
  Inv X Z_ Y (cN H' D<|.lst ys) {s' with heap:=h'}:=by
 have pd:=I'.pin (D,iT its k)<|HE _ GD;have nD:H' D=none:=pd.2.1;have nC:H' C=none:=I'.free;have lt2:∀b o,s2.heap.get? b=some o->b≠D/\b≠C:=λb o e=>⟨GV<|GC (GF e) hD,GV<|GC (GF e) hC⟩
 have hk:∀b o,b≠C->s'.heap.get? b=some o->h'.get? b=some o:=λb o hb e=>(hs.2 b hb).trans e;have ZY:Un (frs X.stack) fp H2 H' s2.heap s'.heap:=I'.base;have tr:∀b u,H' b=some u->b≠D/\b≠C:=λb u e=>⟨λz=>(by rw[z,nD]at e;cases e),λz=>(by rw[z,nC]at e;cases e)⟩
 refine I2.call' (ch:=fp) I'.os ⟨λb o e n hb hx=>?_,λb o e n hb hx=>?_,λb o e n hx=>?_,λb o e hx=>?_,λb xs e=>?_,λb o u e=>?_,λb ps e=>?_⟩ (λb u e=>?_) I'.bare λb hb=>⟨(f2 b hb).2.2.2.1,(f2 b hb).2.1,(f2 b hb).2.2.2.2.1,(f2 b hb).2.2.2.2.2⟩
 ·exact hk b o (lt2 b o e).2 (ZY.keep b o e n hb hx)
 ·obtain⟨sl,q⟩:=ZY.slot b o e n hb hx;exact⟨sl,hk b _ (lt2 b o e).2 q⟩
 ·rw[ar (lt2 b o e).1];exact ZY.free b o e n hx
 ·obtain⟨o',q⟩:=ZY.there b o e hx;exact⟨o',hk b _ (lt2 b o e).2 q⟩
 ·rw[ar (tr b _<|ZY.tups b xs e).1];exact ZY.tups b xs e
 ·rw[ar (tr b _<|ZY.frzs b o u e).1];exact ZY.frzs b o u e
 ·obtain⟨more,q⟩:=ZY.tbls b ps e;exact⟨more,by rw[ar (tr b _ q).1];exact q⟩
 ·by_cases hb:b=D
  ·subst hb;rw[ao]at e;cases e;exact⟨hl,its,k,rv,hk _ _ hDC pd.1⟩
  ·rw[ar hb]at e;refine(I'.hok b u e).stay (λc w' hc q=>hk c w' ?_ q) (λc q=>by rw[ar (tr c _ q).1];exact q) λc xs q=>by rw[ar (tr c _ q).1];exact q
   rcases hc with z|z;·rw[z];exact(tr b u e).2
   ·exact(tr c _ z).2
theorem iV(S:CompScope X scope N cap):∀x∈scope.names,x.2=.local->scope.names.lookup x.1=some .local:=λx hx hl=>dX S.uniq (by rw[<-hl];exact hx)
theorem d5(S:CompScope X scope N cap)(hc:X.calm=true)(hi:PI X tg Z3 wi)
  (hg:∀s H C fp,PG (bD X scope N s H C fp) tg g) (hf:∀s H C fp,BD (bD X scope N s H C fp) ifs tf) (he:∀s H C fp,PE (bD X scope N s H C fp) Z4 te)
  (hs:∀x,foldedSetIterable Z3 X.env x=pure x:=by intro _;rfl):PE X (.ListComp Z4 [⟨tg,Z3,ifs,0⟩] scope pos) (lA cap wi g tf te):=by
 intro Z_ s Y H Q I h;rw[P8];have frc:∀x∈scope.names,x.2=.free->∃c,X.env.cells.lookup x.1=some c:=λx hx hk=>I.ok.has x.1<|S.free x hx hk;refine Ke (use:=none) rfl hs (gb frc) S.kind (iV S)<|cG (hi Z_ s Y H _ I h) λv s1 h1=>cG h1 λitv s2 h2=>?_;obtain⟨it,fp,tn,J,H2,rfl,I2,T,st2,f2,W,w0,turn⟩:=h2;refine iU (RR:=λacc C=>compPost (model X.prog X.w) X.A X.xe none (EP X Z_ Y Q) acc C) S hf he I2 (T.x hc hg) st2 f2 w0 turn λD C σ' H' s' its k ys hD hC hDC I' rv hl q=>?_;obtain⟨m,hn,_⟩:=I'.loc;exact⟨m,hn,λh' hs'=>⟨.ref D,_,lB I2 f2 hD hC hDC I' rv hl hs',rfl,q⟩⟩
end
section
variable{X:Cx}{scope:JH}{N:List Str}{cap:List (Option Nat)}{tg Z3 Z4:Expr}{ifs:List Expr}{pos spos py:Pos}{wi:TI}{g:TG}{tf:TT}{te:TE}{i:Nat}{y:Str}
theorem dP(hN:X.N.Nodup)(hi':X.N[i]? =some y)(hy:Aq X.env.scope y)(S:CompScope X scope N cap)(hc:X.calm=true)(hi:PI X tg Z3 wi)
  (hg:∀s H C fp,PG (bD X scope N s H C fp) tg g) (hf:∀s H C fp,BD (bD X scope N s H C fp) ifs tf) (he:∀s H C fp,PE (bD X scope N s H C fp) Z4 te)
  (hsw:swapsWith (.ListComp Z4 [⟨tg,Z3,ifs,0⟩] scope pos) (some<|.Name y py) spos.line X.env=pure true:=by rfl)
  (hs:∀x,foldedSetIterable Z3 X.env x=pure x:=by intro _;rfl) (hfn:X.fn y=true\/X.env.scope.names.lookup y=some .local:=by first|exact .inl rfl|exact .inr rfl|assumption):
  PS X (.Assign [.Name y py] (.ListComp Z4 [⟨tg,Z3,ifs,0⟩] scope pos) spos) (cH (lA cap wi g tf te)<|bc i):=by
 intro Z_ s Y H D I h;rw[exec_Assign_Name_used _ _ _ _ hsw];refine Gn<|LZ<|Gn ?_;show wpAny _ X.A (do let _ <-comprehension (.ListComp Z4 [⟨tg,Z3,ifs,0⟩] scope pos) scope X.env _ (newList []) false (eval Z3 X.env) (some<|assign (.Name y py) X.env)) _ _ s;have frc:∀x∈scope.names,x.2=.free->∃c,X.env.cells.lookup x.1=some c:=λx hx hk=>I.ok.has x.1<|S.free x hx hk;refine Gn<|Iw (Ke (use:=some<|assign (.Name y py) X.env) (Q:=λ_ s'=>SP X Z_ D .next s') rfl hs (gb frc) S.kind (iV S)<|cG (hi Z_ s Y H _ I h) λv s1 h1=>cG h1 λitv s2 h2=>?_) (λ_ s' hq=>Gy<|Gy hq) λ_ _ e=>e;obtain⟨it,fp,tn,J,H2,rfl,I2,T,st2,f2,W,w0,turn⟩:=h2;refine iU (Qv:=λx H1=>bc i x Y H1 D.nx) (RR:=λacc C=>compPost (model X.prog X.w) X.A X.xe (some<|assign (.Name y py) X.env) (λ_ s'=>SP X Z_ D .next s') acc C) S hf he I2 (T.x hc hg) st2 f2 w0 turn λd C σ' H' s' its k ys hD hC hDC I' rv hl q=>?_;obtain⟨m,hn,_⟩:=I'.loc;have I3:Inv X Z_ Y (cN H' d<|.lst ys) s':=lB (h':=s'.heap) I2 f2 hD hC hDC I' rv hl<|.refl ..;have nC:(cN H' d<|.lst ys) C=none:=by rw[ar<|HW hDC];exact I'.free
 have cL:C≠X.env.locals:=λz=>absurd (GC I2.lt hC) (by rw[z];exact Hx _);have cc:∀x c,X.env.cells.lookup x=some c->c≠C:=λx c e z=>by
  obtain⟨v,q⟩:=I2.cell x c e;exact absurd (GC q.lt hC) (by rw[z];exact Hx _)
 show wpAny _ X.A (assign (.Name y py) X.env<|.ref d) _ _ _;refine Nl<|mI (v:=.ref d) I3 hN hi' hy rfl (λs4 I4⟨a,sb,ha⟩=>?_) hfn;have aC:C≠a:=by
  rcases ha with z|z;·rw[z];exact cL
  ·exact HW<|cc _ _ z
 refine⟨m,hn.sameBut sb aC,λh' hs'=>?_⟩;exact⟨_,_,I4.turned (it:=C) (t':=s4.toks) (λb o hb e=>(hs'.2 b hb).trans e) nC cL (.inr<|HB I2.sz hC) cc (λp hp z=>absurd (GC (GF (I2.pin p hp).1) hC) (by rw[z];exact Hx _)),q⟩
end
inductive Src where
 |lst (a:Addr)|tup (a:Addr)|str (l:List Nat)
def Src.has(K:Gp)(H:Hp):Src->List V->Prop
 | .lst a,xs=>SqL K H a xs
 | .tup a,xs=>SqT K H a xs
 | .str l,xs=>xs=l.map λc=>Jp<|sOf [c]
def Src.at(it:Addr)(i:Nat)(h:Heap):Src->Prop
 | .lst a=>h.IsListIter it a i
 | .tup a=>h.IsTupleIter it a i
 | .str l=>∃t,h.IsStrIter it "str_ascii_iterator" (sOf l) t i\/h.IsStrIter it "str_iterator" (sOf l) t i
def Src.val:Src->V
 | .lst a=>.ref a
 | .tup a=>.ref a
 | .str l=>.str<|sOf l
section
variable{P:GQ}{w:Ha}{A:Hf}{E:Gv->Gw->Prop}{s:Gw}
theorem nV{j a:Addr}{k:Nat}{us:Array Gv}{x:Gv}{Q:Gv->Gw->Prop}(g:s.heap.IsTupleIter j a k)(ga:s.heap.IsTuple a us)(gx:us[k]? =some x)
  (q:∀h',h'.IsTupleIter j a (k+1)->GW j s.heap h'->Q x {s with heap:=h'}):wpAny (model P w) A (GY<|.ref j) Q E s:=by
 obtain⟨ob,e1,e2,e3⟩:=id g;obtain⟨ot,f1,_,nn,f3⟩:=ga;unfold GY;refine Gn<|HC (name:=Gq "__next__") g.typeIs IW<|HK IW g.typeIs Ku ?_<|Kn _;show wpAny (model P w) _ (field (.ref j) 0>>=_) _ _ s;refine Gn<|He e1 e3 (x:=.ref a) rfl ?_;show wpAny (model P w) _ (if(GH a==Hg)=true then _ else _) _ _ s;rw[Z2 (show ¬((GH a==Hg)=true)from GN)];show wpAny (model P w) _ (field (.ref j) 1>>=_) _ _ s;refine Gn<|He e1 e3 (x:=.int k 0) rfl ?_;show wpAny (model P w) _ (seqItems? (.ref a)>>=_) _ _ s;refine Gn<|HA f1 f3 ?_;simp only[IF,gx];refine Gn (IH e1 e3 (by simp) (Gy ⟨x,rfl,Gy (q _ ⟨_,HS _ e1<|IZ<|Im e3 _,(LQ ..).trans e2,(by rw[Im e3];simp[rawInt])⟩<|Jd ..)⟩))
theorem ph{j a:Addr}{k:Nat}{us:Array Gv}{Q:Gv->Gw->Prop}(hh:A.handled=none)(g:s.heap.IsTupleIter j a k)(ga:s.heap.IsTuple a us)(gx:us[k]? =none)
  (q:∀h' e,Jk j s.heap h'->(∃o,h'.get? e=some o/\o.cls=.type "StopIteration")->E (.ref e) {s with heap:=h'}):wpAny (model P w) A (GY<|.ref j) Q E s:=by
 obtain⟨ob,e1,e2,e3⟩:=id g;obtain⟨ot,f1,_,nn,f3⟩:=ga;unfold GY;refine Gn<|HC (name:=Gq "__next__") g.typeIs IW<|HK IW g.typeIs Ku ?_<|Kn _;show wpAny (model P w) _ (field (.ref j) 0>>=_) _ _ s;refine Gn<|He e1 e3 (x:=.ref a) rfl ?_;show wpAny (model P w) _ (if(GH a==Hg)=true then _ else _) _ _ s;rw[Z2 (show ¬((GH a==Hg)=true)from GN)];show wpAny (model P w) _ (field (.ref j) 1>>=_) _ _ s;refine Gn<|He e1 e3 (x:=.int k 0) rfl ?_;show wpAny (model P w) _ (seqItems? (.ref a)>>=_) _ _ s;refine Gn<|HA f1 f3 ?_;simp only[IF,gx];refine Gn (KQ (Gn (IH e1 e3 (by simp) ?_)));show wpAny (model P w) _ (newExc (.type "StopIteration") []>>=_) _ _ _;refine Gn ?_;simp only[newExc,newTuple];refine Gn (IE (Gn (m:=firstArgMember _ _) (NY (a:=Hg) (by first|rfl|(simp only[firstArgMember];rfl)) (IE ?_ (by size_fits)))) (by size_fits));simp only[raiseNew];refine Gn<|N0 ?_
 first|rw[show A.in1.handled=none from hh]|rw[hh]
 exact Gn<|Gy<|NZ<|q _ _ (((Jd ..).extBut.push _).push _) ⟨_,GA _ rfl,rfl⟩
theorem vL(hh:A.handled=none)(j a:Addr)(ne:a≠j)(us:Array Gv):Ms P w A j [j,a] us.size (λk v=>us[k]? =some v) (λk h=>h.IsTupleIter j a k/\h.IsTuple a us) where
 live:=λ_ _ st=>by obtain⟨⟨o,e,_⟩,_⟩:=st;exact⟨o,e⟩
 frame:=λ_ _ _ st hk=>⟨st.1.at λo e=>hk j (by simp) o e,by obtain⟨o,e,r⟩:=st.2;exact⟨o,hk a (by simp) o e,r⟩⟩
 item:=λk s Q E hk st q=>nV st.1 st.2 (x:=us[k]) (by simp[hk]) λh' g' sb=>q _ h' s.toks (by simp[hk]) ⟨g',by obtain⟨o,e,r⟩:=st.2;exact⟨o,(sb.2 a ne).trans e,r⟩⟩ sb
 done:=λs Q E st q=>ph hh st.1 st.2 (by simp) q
theorem Src.draws{X:Cx}{Z_:List (Addr×Obj)}{Y:St}{H:Hp}{s0:Gw}{c:Src}{xs:List V}{it:Addr}{i:Nat}(hh:A.handled=none)(I:Inv X Z_ Y H s0)(hs:c.has X.K H xs)(ht:c.at it i s0.heap)(hit:H it=none):
  ∃(fp:List Addr)(Pt:Nat->Gv->Prop)(St:Nat->Heap->Prop),Ms X.prog X.w A it fp xs.length Pt St/\St i s0.heap/\(∀k v,Pt k v-> ∃x,xs[k]? =some x/\RelV x v)/\(∀k h,St k h->c.at it k h)/\it∈fp/\
   ∀b∈fp,b=it\/H b≠none\/∃o,X.base.get? b=some o:=by
 cases c with
 |lst a=>
  obtain⟨its,rv,p,hz⟩:=I.list hs;have ne:a≠it:=λz=>by
   obtain⟨o,e,c1,_⟩:=(show s0.heap.IsListIter it a i from ht)
   obtain⟨o2,e2,c2,_⟩:=p.isList;rw[z,e]at e2;cases e2;rw[c1]at c2;exact absurd c2 ⋯
  have dr:=Draws.list (prog:=X.prog) (w:=X.w) hh it a ne its.toArray;rw[GG,<-rv.length]at dr;refine⟨_,_,_,dr,⟨ht,p.isList⟩,λk v e=>?_,λk h st=>st.1,by simp,λb hb=>?_⟩
  ·have e:its[k]? =some v:=by simpa using e
   have hk:k<xs.length:=by rw[rv.length];exact(Gx.mp e).1
   obtain⟨u,hu,ru⟩:=rv.get (i:=k) (x:=xs[k]) (by simp[hk]);rw[e]at hu;cases hu;exact⟨_,by simp[hk],ru⟩
  ·rcases GK.mp hb with z | z;·exact .inl z
   ·have z:b=a:=by simpa using z
    subst z;rcases (show SqL X.K H b xs from hs)with(z|⟨o,z⟩)|⟨o,_,_,z,_⟩
    ·exact .inr (.inl (by rw[z];simp))
    ·exact .inr (.inl (by rw[z];simp))
    ·exact .inr<|.inr ⟨_,I.mod.kin _ _ z⟩
 |tup a=>
  obtain⟨its,rv,p,hz⟩:=I.tuple hs;have p:s0.heap.IsTuple a its.toArray:=p;have ne:a≠it:=λz=>by
   obtain⟨o,e,c1,_⟩:=(show s0.heap.IsTupleIter it a i from ht)
   obtain⟨o2,e2,c2,_⟩:=id p;rw[z,e]at e2;cases e2;rw[c1]at c2;exact absurd c2 ⋯
  have dr:=vL (P:=X.prog) (w:=X.w) hh it a ne its.toArray;rw[GG,<-rv.length]at dr;refine⟨_,_,_,dr,⟨ht,p⟩,λk v e=>?_,λk h st=>st.1,by simp,λb hb=>?_⟩
  ·have e:its[k]? =some v:=by simpa using e
   have hk:k<xs.length:=by rw[rv.length];exact(Gx.mp e).1
   obtain⟨u,hu,ru⟩:=rv.get (i:=k) (x:=xs[k]) (by simp[hk]);rw[e]at hu;cases hu;exact⟨_,by simp[hk],ru⟩
  ·rcases GK.mp hb with z | z;·exact .inl z
   ·have z:b=a:=by simpa using z
    subst z;rcases (show SqT X.K H b xs from hs)with(z|⟨o,z⟩)|⟨o,_,_,z,_⟩
    ·exact .inr (.inl (by rw[z];simp))
    ·exact .inr (.inl (by rw[z];simp))
    ·exact .inr<|.inr ⟨_,I.mod.kin _ _ z⟩
 |str l=>
  have hs:xs=l.map λc=>Jp (sOf [c]):=hs;obtain⟨t,ht⟩:=(show ∃t,s0.heap.IsStrIter it "str_ascii_iterator" (sOf l) t i\/s0.heap.IsStrIter it "str_iterator" (sOf l) t i from ht)
  have hn:(sOf l).cps.size=xs.length:=by rw[hs];simp[sOf]
  have sg:∀(k:Nat)(v:Gv),(∃c u,(sOf l).cps[k]? =some c/\v=.str ⟨#[c]⟩ u)->∃x,xs[k]? =some x/\RelV x v:=λk v⟨c,u,e,ev⟩=>by
   have e:l[k]? =some c:=by simpa [sOf] using e
   exact⟨.str<|sOf [c],by rw[hs];simp[e],⟨u,ev⟩⟩
  rcases ht with ht|ht;·exact⟨_,_,_,hn▸Draws.strAscii hh it (sOf l) t,ht,sg,λk h st=>⟨t,.inl st⟩,by simp,λb hb=>.inl (by simpa using hb)⟩
  ·exact⟨_,_,_,hn▸Draws.strWide hh it (sOf l) t,ht,sg,λk h st=>⟨t,.inr st⟩,by simp,λb hb=>.inl (by simpa using hb)⟩
end
def fK(v:Gv)(h:Heap)(o:Obj):Prop:=∀(prog:GQ)(w:Ha)(A:Hf)(E:Gv->Gw->Prop)(Q:Gv->Gw->Prop)(s:Gw),s.heap=h->Q (.ref h.objs.size) {s with heap:=h.push o}->wpAny (model prog w) A (pyIter v) Q E s
def C6(h:Heap)(o1 o2:Obj):Heap:=((h.push o1).push o2).push {cls:=.type "tuple",data:=.seq #[.ref h.objs.size,.ref (h.push o1).objs.size]}
def C7(h:Heap)(o1 o2:Obj):Heap:=(C6 h o1 o2).push {cls:=.type "tuple",data:=.seq #[.none,.none]}
def BE(h:Heap)(o1 o2:Obj):Heap:=(C7 h o1 o2).push {cls:=.type "zip",data:=.fields #[.none,.bool false,.bool false,.ref ((h.push o1).push o2).objs.size,.ref (C6 h o1 o2).objs.size]}
theorem nW(v1 v2:Gv)(o1 o2:Obj):Meets (MS.«zip.__new__» ⟨[.type "zip",v1,v2],[]⟩) (λ_ R s=>fK v1 s.heap o1/\fK v2 (s.heap.push o1) o2/\R (.ok<|.ret<|.ref (C7 s.heap o1 o2).objs.size) {s with heap:=BE s.heap o1 o2}):=
 .of_wp λprog w A R s h=>by
  obtain⟨hp,g,d,tk,os⟩:=s;obtain⟨i1,i2,h⟩:=h;have hsub:=sub_zip;have j1:=λ(A:Hf)(E:Gv->Gw->Prop)(Q:Gv->Gw->Prop)(q:Q _ _)=>i1 prog w A E Q ⟨hp,g,d,tk,os⟩ rfl q;have j2:=λ(A:Hf)(E:Gv->Gw->Prop)(Q:Gv->Gw->Prop)(q:Q _ _)=>i2 prog w A E Q ⟨hp.push o1,g,d,tk,os⟩ rfl q
  wp_walk using j1 _ _ _,j2 _ _ _
  exact⟨_,rfl,h⟩
theorem tN{P:GQ}{w:Ha}{A:Hf}{E:Gv->Gw->Prop}{s:Gw}{v1 v2:Gv}{o1 o2:Obj}{Q:Gv->Gw->Prop}(i1:fK v1 s.heap o1)(i2:fK v2 (s.heap.push o1) o2)
  (f1:o1.isFreed=false) (f2:o2.isFreed=false)
  (q:∀h',JI h' (s.heap.objs.size+4) (s.heap.objs.size+2) (s.heap.objs.size+3) .none->Ko h' (s.heap.objs.size+2) (.ref s.heap.objs.size) (.ref<|s.heap.objs.size+1)->Ko h' (s.heap.objs.size+3) .none .none->
   h'.get? s.heap.objs.size=some o1->h'.get? (s.heap.objs.size+1)=some o2->(∀c o,s.heap.get? c=some o->h'.get? c=some o)->Q (.ref (s.heap.objs.size+4)) {s with heap:=h'}):
  wpAny (model P w) A (call (.type "zip") [v1,v2]) Q E s:=by
 refine callType_new Nc ⋯ (PySem.F.typeCall_zip_2 _ _) (PySem.F.newCall_zip_2 _ _) (λobj=>PySem.F.args_object_init_3 obj _ _) MA (nW v1 v2 o1 o2) ⟨i1,i2,?_⟩;have z1:(s.heap.push o1).objs.size=s.heap.objs.size+1:=Hz ..;have z2:((s.heap.push o1).push o2).objs.size=s.heap.objs.size+2:=by rw[Hz,z1]
 have z3:(C6 s.heap o1 o2).objs.size=s.heap.objs.size+3:=by unfold C6;rw[Hz,z2]
 have z4:(C7 s.heap o1 o2).objs.size=s.heap.objs.size+4:=by unfold C7;rw[Hz,z3]
 have g5:(BE s.heap o1 o2).get? (C7 s.heap o1 o2).objs.size=some _:=GA _ rfl;have g4:(BE s.heap o1 o2).get? (C6 s.heap o1 o2).objs.size=some _:=Gu _<|GA _ rfl;have g3:(BE s.heap o1 o2).get? ((s.heap.push o1).push o2).objs.size=some _:=Gu _<|Gu _<|GA _ rfl;have g2:(BE s.heap o1 o2).get? (s.heap.push o1).objs.size=some o2:=Gu _<|Gu _<|Gu _<|GA _ f2;have g1:(BE s.heap o1 o2).get? s.heap.objs.size=some o1:=Gu _<|Gu _<|Gu _<|Gu _<|GA _ f1;show _/\_;rw[z2,z3,z4]at g5;rw[z1,z2]at g3;rw[z3]at g4;rw[z1]at g2;rw[z4];exact⟨⟨_,g5,rfl⟩,q _ g5 g3 g4 g1 g2 λc o x=>Gu _<|Gu _<|Gu _<|Gu _<|Gu _ x⟩
theorem Src.iter{X:Cx}{Z_:List (Addr×Obj)}{Y:St}{H:Hp}{s:Gw}{c:Src}{xs:List V}{v:Gv}{h:Heap}(I:Inv X Z_ Y H s)(hs:c.has X.K H xs)(rv:RelV c.val v)(k:∀b o,s.heap.get? b=some o->h.get? b=some o):
  ∃o,fK v h o/\o.isFreed=false/\(∀h':Heap,h'.get? h.objs.size=some o->c.at h.objs.size 0 h'):=by
 cases c with
 |lst a=>
  obtain⟨its,r,p,hz⟩:=I.list hs;cases (show v=.ref a from rv);obtain⟨o,e,r2⟩:=p.isList;refine⟨{cls:=.type "list_iterator",data:=.fields #[.ref a,.int 0 0]},λprog w A E Q s' e' q=>?_,rfl,λh' e'=>⟨_,e',rfl,rfl⟩⟩;subst e';exact JY ⟨o,k a o e,r2⟩ q
 |tup a=>
  obtain⟨its,r,p,hz⟩:=I.tuple hs;cases (show v=.ref a from rv);obtain⟨o,e,r2⟩:=p;refine⟨{cls:=.type "tuple_iterator",data:=.fields #[.ref a,.int 0 0]},λprog w A E Q s' e' q=>?_,rfl,λh' e'=>⟨_,e',rfl,rfl⟩⟩;subst e';exact wpAny_pyIter_tuple ⟨o,k a o e,r2⟩ q
 |str l=>
  obtain⟨t,rfl⟩:=(show ∃t,v=.str (sOf l) t from rv)
  cases ha:(sOf l).cps.all (· <128);·exact⟨{cls:=.type "str_iterator",data:=.fields #[.str (sOf l) t,.int 0 0]},λprog w A E Q s' e' q=>by subst e';exact Nz ha q,rfl,λh' e'=>⟨t,.inr ⟨_,e',rfl,rfl⟩⟩⟩
  ·exact⟨{cls:=.type "str_ascii_iterator",data:=.fields #[.str (sOf l) t,.int 0 0]},λprog w A E Q s' e' q=>by subst e';exact Na ha q,rfl,λh' e'=>⟨t,.inl ⟨_,e',rfl,rfl⟩⟩⟩
section
variable{P:GQ}{w:Ha}{A:Hf}{E:Gv->Gw->Prop}{s:Gw}{z TI TO i1 i2:Addr}{fp1 fp2:List Addr}{n1 n2 k:Nat}{P1 P2:Nat->Gv->Prop}{S1 S2:Nat->Heap->Prop}{a b:Gv}
structure ZApart(z TI TO i1 i2:Addr)(fp1 fp2:List Addr):Prop where
 c1:TI≠z
 c2:TO≠z
 c3:i1≠z
 c4:i2≠z
 c5:TI≠TO
 c6:TI≠i1
 c7:TI≠i2
 c8:TO≠i1
 c9:TO≠i2
 d1:z∉fp1/\TO∉fp1/\i2∉fp1
 d2:z∉fp2/\TO∉fp2/\i1∉fp2
theorem ay{n:Nat}{it:Addr}{fp:List Addr}{Pt:Nat->Gv->Prop}{S:Nat->Heap->Prop}(D:Ms P w A it fp n Pt S){j:Nat}{h h':Heap}{c:Addr}(st:S j h)(sb:GW c h h')(hc:c∉fp):S j h':=
 D.frame _ _ _ st λb hb o e=>(sb.2 b λq=>hc<|q▸hb).trans e
theorem tO{Q:Option Gv->Gw->Prop}(D1:Ms P w A.in1 i1 fp1 n1 P1 S1)(D2:Ms P w A.in1 i2 fp2 n2 P2 S2)(Z:ZApart z TI TO i1 i2 fp1 fp2)(h1:k<n1)(h2:k<n2)(hz:JI s.heap z TI TO .none)
  (hI:Ko s.heap TI (.ref i1) (.ref i2)) (hO:Ko s.heap TO a b) (t1:S1 k s.heap) (t2:S2 k s.heap)
  (q:∀x y h' tk T,P1 k x->P2 k y->T=s.heap.objs.size->JI h' z TI TO (rawInt T)->Ko h' TO x y->S1 (k+1) h'->S2 (k+1) h'->Ko h' T x y->
   (∀c o,c≠z->c≠TO->c≠i1->c≠i2->s.heap.get? c=some o->h'.get? c=some o)->Q (some (.ref T)) {s with heap:=h',toks:=tk}):
  wpAny (model P w) A (pyNext<|.ref z) Q E s:=by
 have hT:s.TypeIs (.ref z) "zip":=⟨_,hz,rfl⟩
 unfold pyNext;refine Gn<|J5<|HC (name:=Gq "__next__") hT Ih<|HK Ih hT JO ?_<|JG _;obtain⟨hp,gg,dd,tk0,os⟩:=s;show wpAny (model P w) _ (field (.ref z) 2>>=_) _ _ _;refine Gn<|He hz rfl (x:=.bool false) rfl ?_;show wpAny (model P w) _ (field (.ref z) 3>>=_) _ _ _;refine Gn<|He hz rfl (x:=.ref TI) rfl<|Gn<|HA hI rfl ?_;show wpAny (model P w) _ (Hi (.ref z)>>=_) _ _ _;refine Gn ?_;unfold Hi;refine Gn<|He hz rfl (x:=.none) rfl<|Gy ?_;simp only[if_true];refine Gn (KQ (Gn (He hz rfl (x:=.ref TO) rfl (Gn (HF hz (by simp) λg1 y1 b1=>?_)))));replace y1:JI g1 z TI TO .ellipsis:=y1;replace b1:GW z hp g1:=b1;refine Gn ?_;simp only[KR,Lh,Ki,KA];refine Gn<|Gn<|J6 ?_;show wpAny (model P w) _ (GY (.ref i1)>>=_) _ _ _;refine Gn<|D1.item k _ _ _ h1 (ay D1 t1 b1 Z.d1.1) λx g2 tk2 px u1 b2=>Gy ?_;replace b2:GW i1 g1 g2:=b2;have O2:Ko g2 TO a b:=b2.extBut _ _ Z.c8<|b1.extBut _ _ Z.c2 hO;refine Gn<|HA O2 rfl<|Gn<|L9 O2 λg3 O3 b3=>?_;replace O3:Ko g3 TO x b:=O3;replace b3:GW TO g2 g3:=b3;refine Gn<|K8<|Gy<|Gn<|Gn<|J6 ?_;show wpAny (model P w) _ (GY (.ref i2)>>=_) _ _ _;refine Gn<|D2.item k _ _ _ h2 (ay D2 (ay D2 (ay D2 t2 b1 Z.d2.1) b2 Z.d2.2.2) b3 Z.d2.2.1) λy g4 tk4 py u2 b4=>Gy ?_;replace b4:GW i2 g3 g4:=b4;have O4:Ko g4 TO x b:=b4.extBut _ _ Z.c9 O3;refine Gn<|HA O4 rfl<|Gn<|L9 O4 λg5 O5 b5=>?_;replace O5:Ko g5 TO x y:=O5;replace b5:GW TO g4 g5:=b5;refine Gn<|K8<|Gy<|Gy<|Gn<|HA O5 rfl<|Gn<|Ox ?_;have sz:g5.objs.size=hp.objs.size:=by rw[b5.1,b4.1,b3.1,b2.1,b1.1]
 have y5:JI g5 z TI TO .ellipsis:=b5.extBut _ _ Z.c2.symm<|b4.extBut _ _ Z.c4.symm<|b3.extBut _ _ Z.c2.symm<|b2.extBut _ _ Z.c3.symm y1;have k5:∀c o,c≠z->c≠TO->c≠i1->c≠i2->hp.get? c=some o->g5.get? c=some o:=λc o e1 e2 e3 e4 e=>b5.extBut _ _ e2<|b4.extBut _ _ e4<|b3.extBut _ _ e2<|b2.extBut _ _ e3<|b1.extBut _ _ e1 e;have v1:S1 (k+1) g5:=ay D1 (ay D1 (ay D1 u1 b3 Z.d1.2.1) b4 Z.d1.2.2) b5 Z.d1.2.1;have v2:S2 (k+1) g5:=ay D2 u2 b5 Z.d2.2.1;have lz:z<g5.objs.size:=GF y5;show wpAny (model P w) _ (IA (.ref z) (.ref g5.objs.size)>>=_) _ _ _;refine Gn ?_;unfold IA;have y6:JI (g5.push {cls:=.type "tuple",data:=.seq #[x,y]}) z TI TO .ellipsis:=Gu _ y5;refine Gn (HF y6 (by simp) λg7 y7 b7=>?_);replace y7:JI g7 z TI TO (rawInt g5.objs.size):=y7;replace b7:GW z (g5.push {cls:=.type "tuple",data:=.seq #[x,y]}) g7:=b7;refine HF y7 (by simp) λg8 y8 b8=>?_;replace y8:JI g8 z TI TO (rawInt g5.objs.size):=y8;replace b8:GW z g7 g8:=b8;have up:∀c o,c≠z->g5.get? c=some o->g8.get? c=some o:=λc o e1 e=>b8.extBut _ _ e1<|b7.extBut _ _ e1<|Gu _ e;have T8:Ko g8 g5.objs.size x y:=b8.extBut _ _ (Jg lz)<|b7.extBut _ _ (Jg lz)<|GA _ rfl;refine Gy ⟨_,rfl,Gy<|q x y g8 _ g5.objs.size px py sz y8 (up _ _ Z.c2 O5) (D1.frame _ _ _ v1 λb hb o e=>up b o (λq=>Z.d1.1<|q▸hb) e) (D2.frame _ _ _ v2 λb hb o e=>up b o (λq=>Z.d2.1<|q▸hb) e) T8 λc o e1 e2 e3 e4 e=>up c o e1<|k5 c o e1 e2 e3 e4 e⟩
theorem vM{Q:Option Gv->Gw->Prop}(hh:A.handled=none)(D1:Ms P w A.in1 i1 fp1 n1 P1 S1)(D2:Ms P w A.in1 i2 fp2 n2 P2 S2)(Z:ZApart z TI TO i1 i2 fp1 fp2)(hk:k=n1\/(k<n1/\k=n2))(hz:JI s.heap z TI TO .none)
  (hI:Ko s.heap TI (.ref i1) (.ref i2)) (hO:Ko s.heap TO a b) (t1:S1 k s.heap) (t2:S2 k s.heap)
  (q:∀h' tk,(∀c o,c≠z->c≠TO->c≠i1->c≠i2->s.heap.get? c=some o->h'.get? c=some o)->Q none {s with heap:=h',toks:=tk}):
  wpAny (model P w) A (pyNext<|.ref z) Q E s:=by
 have hT:s.TypeIs (.ref z) "zip":=⟨_,hz,rfl⟩
 unfold pyNext;refine Gn<|J5<|HC (name:=Gq "__next__") hT Ih<|HK Ih hT JO ?_<|JG _;obtain⟨hp,gg,dd,tk0,os⟩:=s;show wpAny (model P w) _ (field (.ref z) 2>>=_) _ _ _;refine Gn<|He hz rfl (x:=.bool false) rfl ?_;show wpAny (model P w) _ (field (.ref z) 3>>=_) _ _ _;refine Gn<|He hz rfl (x:=.ref TI) rfl<|Gn<|HA hI rfl ?_;show wpAny (model P w) _ (Hi (.ref z)>>=_) _ _ _;refine Gn ?_;unfold Hi;refine Gn<|He hz rfl (x:=.none) rfl<|Gy ?_;simp only[if_true];refine Gn (KQ (Gn (He hz rfl (x:=.ref TO) rfl (Gn (HF hz (by simp) λg1 y1 b1=>?_)))));replace y1:JI g1 z TI TO .ellipsis:=y1;replace b1:GW z hp g1:=b1;refine Gn ?_;simp only[KR,Lh,Ki,KA];refine Gn<|Gn<|J6 ?_;show wpAny (model P w) _ (GY (.ref i1)>>=_) _ _ _;rcases hk with hk|⟨hk1,hk2⟩
 ·subst hk;refine Gn<|D1.done _ _ _ (ay D1 t1 b1 Z.d1.1) λg2 e b2 he=>?_;obtain⟨oe,hoe,hce⟩:=he;replace b2:Jk i1 g1 g2:=b2;have y2:JI g2 z TI TO .ellipsis:=b2 _ _ Z.c3.symm y1;have ez:e≠z:=λx=>by subst x;rw[y2]at hoe;cases hoe;simp at hce
  refine HF y2 (by simp) λg3 _ b3=>?_;exact Gn<|J4 (T:="StopIteration") (b:=true) ⟨oe,b3.extBut _ _ ez hoe,hce⟩ Jn<|Gy<|q g3 _ λc o e1 _ e3 _ x=>b3.extBut _ _ e1<|b2 _ _ e3<|b1.extBut _ _ e1 x
 ·subst hk2;refine Gn<|D1.item k _ _ _ hk1 (ay D1 t1 b1 Z.d1.1) λx g2 tk2 px u1 b2=>Gy ?_;replace b2:GW i1 g1 g2:=b2;have O2:Ko g2 TO a b:=b2.extBut _ _ Z.c8<|b1.extBut _ _ Z.c2 hO;refine Gn<|HA O2 rfl<|Gn<|L9 O2 λg3 O3 b3=>?_;replace b3:GW TO g2 g3:=b3;refine Gn<|K8<|Gy<|Gn<|Gn<|J6 ?_;show wpAny (model P w) _ (GY (.ref i2)>>=_) _ _ _;refine Gn<|D2.done _ _ _ (ay D2 (ay D2 (ay D2 t2 b1 Z.d2.1) b2 Z.d2.2.2) b3 Z.d2.2.1) λg4 e b4 he=>?_;obtain⟨oe,hoe,hce⟩:=he;replace b4:Jk i2 g3 g4:=b4;have y4:JI g4 z TI TO .ellipsis:=b4 _ _ Z.c4.symm<|b3.extBut _ _ Z.c2.symm<|b2.extBut _ _ Z.c3.symm y1;have ez:e≠z:=λx=>by subst x;rw[y4]at hoe;cases hoe;simp at hce
  refine HF y4 (by simp) λg5 _ b5=>?_;exact Gn<|J4 (T:="StopIteration") (b:=true) ⟨oe,b5.extBut _ _ ez hoe,hce⟩ Jn<|Gy<|q g5 _ λc o e1 e2 e3 e4 x=>b5.extBut _ _ e1<|b4 _ _ e4<|b3.extBut _ _ e2<|b2.extBut _ _ e3<|b1.extBut _ _ e1 x
end
def C8(K:Gp)(c1 c2:Src):It:=
  ⟨λi H=>∃xs ys x y,c1.has K H xs/\c2.has K H ys/\xs[i]? =some x/\ys[i]? =some y,
   λi H v H'=>∃p x y,H p=none/\v=.ref p/\(∀xs,c1.has K H xs->xs[i]? =some x)/\(∀ys,c2.has K H ys->ys[i]? =some y)/\H'=cN H p (.tup [x,y]),
   λi H=>∃xs ys,c1.has K H xs/\c2.has K H ys/\(i=xs.length\/(i<xs.length/\i=ys.length))⟩
theorem Src.inj{X:Cx}{Z_:List (Addr×Obj)}{Y:St}{H:Hp}{s:Gw}{c:Src}{xs ys:List V}(I:Inv X Z_ Y H s)(h1:c.has X.K H xs)(h2:c.has X.K H ys):xs=ys:=by
 cases c with
 |lst a=>exact I.list_inj h1 h2
 |tup a=>exact I.tuple_inj h1 h2
 |str l=>exact Eq.trans h1<|Eq.symm h2
theorem Src.at_keep{c:Src}{it:Addr}{i:Nat}{h h':Heap}(st:c.at it i h)(k:∀o,h.get? it=some o->h'.get? it=some o):c.at it i h':=by
 cases c with
 |lst a=>obtain⟨o,e,r⟩:=st;exact⟨o,k o e,r⟩
 |tup a=>obtain⟨o,e,r⟩:=st;exact⟨o,k o e,r⟩
 |str l=>
  obtain⟨t,st⟩:=st;rcases st with⟨o,e,r⟩|⟨o,e,r⟩
  ·exact⟨t,.inl ⟨o,k o e,r⟩⟩
  ·exact⟨t,.inr ⟨o,k o e,r⟩⟩
theorem Src.at_obj{c:Src}{it:Addr}{i:Nat}{h:Heap}(st:c.at it i h):∃o,h.get? it=some o/\∃vs,o.data=.fields vs:=by
 cases c with
 |lst a=>obtain⟨o,e,_,r⟩:=st;exact⟨o,e,_,r⟩
 |tup a=>obtain⟨o,e,_,r⟩:=st;exact⟨o,e,_,r⟩
 |str l=>
  obtain⟨t,st⟩:=st;rcases st with⟨o,e,_,r⟩|⟨o,e,_,r⟩
  ·exact⟨o,e,_,r⟩
  ·exact⟨o,e,_,r⟩
def Fe(c1 c2:Src)(z TI TO i1 i2:Addr)(i:Nat)(h:Heap):Prop:=JI h z TI TO .none/\Ko h TI (.ref i1) (.ref i2)/\(∃a b,Ko h TO a b)/\c1.at i1 i h/\c2.at i2 i h
structure ZIds(z TI TO i1 i2:Addr):Prop where
 c1:TI≠z
 c2:TO≠z
 c3:i1≠z
 c4:i2≠z
 c5:TI≠TO
 c6:TI≠i1
 c7:TI≠i2
 c8:TO≠i1
 c9:TO≠i2
 c10:i1≠i2
theorem vN{X:Cx}{Z_:List (Addr×Obj)}{Y:St}{H:Hp}{s:Gw}{z TI TO i1 i2:Addr}{fp1 fp2:List Addr}(I:Inv X Z_ Y H s)(Z:ZIds z TI TO i1 i2)(hf:∀b∈[z,TI,TO,i1,i2],FpOk X Z_ H b)
  (g1:∀b∈fp1,b=i1\/H b≠none\/∃o,X.base.get? b=some o) (g2:∀b∈fp2,b=i2\/H b≠none\/∃o,X.base.get? b=some o):ZApart z TI TO i1 i2 fp1 fp2:=by
 have no:∀b∈[z,TI,TO,i1,i2],¬(H b≠none\/∃o,X.base.get? b=some o):=λb hb q=>by
  rcases q with q|⟨o,q⟩
  ·exact q (hf b hb).1
  ·rcases (hf b hb).2.2.2.1 with y | y;·exact I.ok.noex b o q y
   ·exact absurd (GC (GC (GF q) I.ok.bsz) y)<|Hx _
 refine⟨Z.c1,Z.c2,Z.c3,Z.c4,Z.c5,Z.c6,Z.c7,Z.c8,Z.c9,⟨λm=>?_,λm=>?_,λm=>?_⟩,⟨λm=>?_,λm=>?_,λm=>?_⟩⟩;·exact(g1 _ m).elim (λe=>Z.c3 e.symm) (no z (by simp))
 ·exact(g1 _ m).elim (λe=>Z.c8 e) (no TO (by simp))
 ·exact(g1 _ m).elim (λe=>Z.c10 e.symm) (no i2 (by simp))
 ·exact(g2 _ m).elim (λe=>Z.c4 e.symm) (no z (by simp))
 ·exact(g2 _ m).elim (λe=>Z.c9 e) (no TO (by simp))
 ·exact(g2 _ m).elim (λe=>Z.c10 e) (no i1 (by simp))
theorem vO{P:GQ}{w:Ha}{K:Gp}{Z5:List Expr}{kk:Nat}{tp:Pos}(c1 c2:Src)(z TI TO i1 i2:Addr)(Z:ZIds z TI TO i1 i2):
  Turn P w K (.Tuple Z5 kk tp) (C8 K c1 c2) [z,TI,TO,i1,i2] z (Fe c1 c2 z TI TO i1 i2) where
 mem:=by simp
 obj:=λi h st b hb=>by
  obtain⟨hz,hI,⟨a,b',hO⟩,t1,t2⟩:=st;obtain⟨o1,e1,v1,d1⟩:=Src.at_obj t1;obtain⟨o2,e2,v2,d2⟩:=Src.at_obj t2;simp only[GK,HD,or_false]at hb;rcases hb with rfl|rfl|rfl|rfl|rfl;·exact⟨_,hz,λv q=>by cases (show LM _=Kb v from q)⟩
  ·exact⟨_,hI,λv q=>by cases (show MM _ _=Kb v from q)⟩
  ·exact⟨_,hO,λv q=>by cases (show MM _ _=Kb v from q)⟩
  ·exact⟨_,e1,λv q=>by rw[d1]at q;cases q⟩
  ·exact⟨_,e2,λv q=>by rw[d2]at q;cases q⟩
 keep:=λi h h' st k=>by
  obtain⟨hz,hI,⟨a,b',hO⟩,t1,t2⟩:=st;exact⟨k z (by simp) _ hz,k TI (by simp) _ hI,⟨a,b',k TO (by simp) _ hO⟩,Src.at_keep t1 (k i1 (by simp)),Src.at_keep t2 (k i2 (by simp))⟩
 item:=by
  intro X hP hw hK hc i Z_ s Y H E I hf st hg;subst hP hw hK;obtain⟨xs,ys,x,y,hx,hy,ex,ey⟩:=hg;obtain⟨hz,hI,⟨a,b',hO⟩,t1,t2⟩:=st;have hh:X.A.in1.handled=none:=I.ok.hd hc;obtain⟨fp1,P1,S1,D1,u1,r1,a1,_,g1⟩:=Src.draws (A:=X.A.in1) hh I hx t1 (hf i1 (by simp)).1;obtain⟨fp2,P2,S2,D2,u2,r2,a2,_,g2⟩:=Src.draws (A:=X.A.in1) hh I hy t2 (hf i2 (by simp)).1;have ZA:=vN I Z hf g1 g2;refine tO D1 D2 ZA (Gx.mp ex).1 (Gx.mp ey).1 hz hI hO u1 u2 λvx vy h' tk T px py hT hz' hO' w1 w2 hTp kp=>?_;obtain⟨x',ex',rx⟩:=r1 i vx px;obtain⟨y',ey',ry⟩:=r2 i vy py;rw[ex]at ex';cases ex';rw[ey]at ey';cases ey';have nT:H T=none:=by rw[hT];exact I.hok.fresh<|GO _
  refine⟨_,rfl,LH hz' λh2 hz2 sb=>?_⟩;have lt:∀{c o},s.heap.get? c=some o->c≠T:=λe=>by rw[hT];exact GV<|GF e
  have up:∀c o,c≠z->h'.get? c=some o->h2.get? c=some o:=λc o hc e=>(sb.2 c hc).trans e;have kp2:∀b o,b∉[z,TO,i1,i2]->s.heap.get? b=some o->h2.get? b=some o:=λb o hb e=>by
   simp only[GK,HD,or_false,not_or]at hb;exact up b o hb.1<|kp b o hb.1 hb.2.1 hb.2.2.1 hb.2.2.2 e
  have ch:∀b∈[z,TO,i1,i2],b∈[z,TI,TO,i1,i2]:=λb hb=>by
   simp only[GK,HD,or_false]at hb ⊢;rcases hb with h|h|h|h<;>simp[h]
  have ik:∀b u,H b=some u->b∉[z,TO,i1,i2]/\b≠T:=λb u e=>⟨λhb=>(by rw[(hf b<|ch b hb).1]at e;cases e),λq=>(by rw[q,nT]at e;cases e)⟩
  have I2:Inv X Z_ Y (cN H T<|.tup [x,y]) {s with heap:=h2,gens:=s.gens,drawn:=s.drawn,toks:=tk}:=by
   refine I.step (g':=s.gens) (d':=s.drawn) (t':=tk) (ch:=[z,TO,i1,i2]) (λb hb=>⟨(hf b<|ch b hb).2.2.2.1,(hf b<|ch b hb).2.1,(hf b<|ch b hb).2.2.2.2.1,(hf b<|ch b hb).2.2.2.2.2⟩) (λb o _ _ hb e _=>kp2 b o hb e) (λb o _ _ hb e _=>⟨o.slots,kp2 b o hb e⟩)
    (λb o hb e n=>by rw[ar<|lt e];exact n) (λb o hb e=>⟨o,kp2 b o hb e⟩) (λb xs e=>by rw[ar (ik b _ e).2];exact e) (λb o u e=>by rw[ar (ik b _ e).2];exact e) (λb ps e=>⟨#[],by rw[ar (ik b _ e).2,e];simp⟩) (λm hm=>?_) (λb u e=>?_) I.bare
   ·obtain⟨o,es,ep,ho,r⟩:=hm;exact⟨o,es,ep,kp2 _ o (λhb=>(hf _<|ch _ hb).2.1 rfl) ho,r⟩
   ·by_cases hb:b=T
    ·subst hb;rw[ao]at e;cases e;refine⟨(by show 2<=sizeLine;rw[HR];decide),[vx,vy],.cons rx<|.cons ry .nil,⟨_,up _ _ ?_ hTp,⟨rfl,rfl⟩,_,rfl⟩⟩;exact λq=>lt hz q.symm
    ·rw[ar hb]at e;refine(I.hok b u e).stay (λc v hc q=>kp2 c v ?_ q) (λc q=>by rw[ar (ik c _ q).2];exact q) λc xs q=>by rw[ar (ik c _ q).2];exact q
     rcases hc with q|q;·rw[q];exact(ik b u e).1
     ·exact(ik c _ q).1
  refine⟨.ref T,_,I2,rfl,⟨T,x,y,nT,rfl,λxs' h=>by rw[Src.inj I h hx];exact ex,λys' h=>by rw[Src.inj I h hy];exact ey,rfl⟩,⟨hz2,up _ _ Z.c1<|kp _ _ Z.c1 Z.c5 Z.c6 Z.c7 hI,⟨_,_,up _ _ Z.c2 hO'⟩,Src.at_keep (a1 _ _ w1) λo e=>up _ o Z.c3 e,Src.at_keep (a2 _ _ w2) λo e=>up _ o Z.c4 e⟩,λb hb=>?_⟩;have hbT:b≠T:=by
   obtain⟨o,e⟩:∃o,s.heap.get? b=some o:=by
    obtain⟨o1,e1,_⟩:=Src.at_obj t1;obtain⟨o2,e2,_⟩:=Src.at_obj t2;simp only[GK,HD,or_false]at hb;rcases hb with rfl|rfl|rfl|rfl|rfl;·exact⟨_,hz⟩
    ·exact⟨_,hI⟩
    ·exact⟨_,hO⟩
    ·exact⟨_,e1⟩
    ·exact⟨_,e2⟩
   exact lt e
  rw[ar hbT];exact(hf b hb).1
 done:=by
  intro X hP hw hK hc i Z_ s Y H E I hf st hg;subst hP hw hK;obtain⟨xs,ys,hx,hy,hend⟩:=hg;obtain⟨hz,hI,⟨a,b',hO⟩,t1,t2⟩:=st;have hh:X.A.in1.handled=none:=I.ok.hd hc;obtain⟨fp1,P1,S1,D1,u1,r1,a1,_,g1⟩:=Src.draws (A:=X.A.in1) hh I hx t1 (hf i1 (by simp)).1;obtain⟨fp2,P2,S2,D2,u2,r2,a2,_,g2⟩:=Src.draws (A:=X.A.in1) hh I hy t2 (hf i2 (by simp)).1;have ZA:=vN I Z hf g1 g2;have ch:∀b∈[z,TO,i1,i2],b∈[z,TI,TO,i1,i2]:=λb hb=>by
   simp only[GK,HD,or_false]at hb ⊢;rcases hb with h|h|h|h<;>simp[h]
  refine vM hh D1 D2 ZA hend hz hI hO u1 u2 λh2 tk kp=>⟨rfl,?_⟩
  have kp2:∀b o,b∉[z,TO,i1,i2]->s.heap.get? b=some o->h2.get? b=some o:=λb o hb e=>by
   simp only[GK,HD,or_false,not_or]at hb;exact kp b o hb.1 hb.2.1 hb.2.2.1 hb.2.2.2 e
  refine I.step (g':=s.gens) (d':=s.drawn) (t':=tk) (ch:=[z,TO,i1,i2]) (λb hb=>⟨(hf b<|ch b hb).2.2.2.1,(hf b<|ch b hb).2.1,(hf b<|ch b hb).2.2.2.2.1,(hf b<|ch b hb).2.2.2.2.2⟩) (λb o _ _ hb e _=>kp2 b o hb e) (λb o _ _ hb e _=>⟨o.slots,kp2 b o hb e⟩)
   (λb o hb e n=>n) (λb o hb e=>⟨o,kp2 b o hb e⟩) (λb xs e=>e) (λb o u e=>e) (λb ps e=>⟨#[],by rw[e];simp⟩) (λm hm=>?_) (λb u e=>?_) I.bare
  ·obtain⟨o,es,ep,ho,r⟩:=hm;exact⟨o,es,ep,kp2 _ o (λhb=>(hf _<|ch _ hb).2.1 rfl) ho,r⟩
  ·have ik:∀b u,H b=some u->b∉[z,TO,i1,i2]:=λb u e hb=>by rw[(hf b<|ch b hb).1]at e;cases e
   refine(I.hok b u e).stay (λc v hc q=>kp2 c v ?_ q) (λc q=>q) λc xs q=>q;rcases hc with q|q
   ·rw[q];exact ik b u e
   ·exact ik c _ q
 self:=λ_ _ _ _ _ st h=>KS st.1 h
theorem kH(n a b:Nat)(h:a≠b): @Ne Nat (n+a) (n+b):=λe=>h<|Nat.add_left_cancel e
def AL(K:Gp)(t:TA):TI:=λY H R=>t Y H λvs H1=>∃c1 c2 xs ys,vs=[c1.val,c2.val]/\c1.has K H1 xs/\c2.has K H1 ys/\R (C8 K c1 c2) H1
theorem AM{X:Cx}{a b:Expr}{ta:TA}{p pos tp:Pos}{Z5:List Expr}{kk:Nat}(hg:Gl X "zip")(hm:X.mg "zip"=none)(ha:PA X [a,b] ta)
  (hs:starEach [a,b] X.env=[(false,eval a X.env),(false,eval b X.env)]:=by rfl) (hs2:starEach [b] X.env=[(false,eval b X.env)]:=by rfl):PI X (.Tuple Z5 kk tp) (.Call (.Name "zip" p) [a,b] [] pos) (AL X.K ta):=by
 intro Z_ s Y H R I h;refine Call_ (jE I hg hm boot_zip (Jh (cG (ha pos Z_ s Y H _ I h) λus s1⟨vs,H1,I1,r1,q1⟩=>?_) (by rw[hs,hs2]) (by rw[hs2];rfl)));obtain⟨c1,c2,xs,ys,e,h1,h2,q⟩:=q1;subst e;obtain⟨v1,v2,rfl,ra,rb⟩:=oR r1;obtain⟨o1,i1,f1,n1⟩:=Src.iter I1 h1 ra λ_ _ e=>e;obtain⟨o2,i2,f2,n2⟩:=Src.iter (h:=s1.heap.push o1) I1 h2 rb λ_ _ e=>Gu _ e;have z1:(s1.heap.push o1).objs.size=s1.heap.objs.size+1:=Hz ..;rw[z1]at n2;refine tN i1 i2 f1 f2 λh' hz hI hO e1 e2 kp=>?_;refine KS hz ?_;have zi:∀n:Nat,ZIds (n+4) (n+2) (n+3) n (n+1):=λn=>⟨(kH n 2 4 ⋯),(kH n 3 4 ⋯),(kH n 0 4 ⋯),(kH n 1 4 ⋯),(kH n 2 3 ⋯),(kH n 2 0 ⋯),(kH n 2 1 ⋯),(kH n 3 0 ⋯),(kH n 3 1 ⋯),(kH n 0 1 ⋯)⟩
 refine⟨s1.heap.objs.size+4,[s1.heap.objs.size+4,s1.heap.objs.size+2,s1.heap.objs.size+3,s1.heap.objs.size,s1.heap.objs.size+1],_,_,H1,rfl,I1.kept (t':=s1.toks) kp,vO c1 c2 _ _ _ _ _<|zi s1.heap.objs.size,⟨hz,hI,⟨_,_,hO⟩,n1 h' e1,n2 h' e2⟩,λb hb=>?_,q⟩;have hb':s1.heap.objs.size<=b:=by
  simp only[GK,HD,or_false]at hb;rcases hb with z|z|z|z|z<;>rw[z]
  ·exact IP _ 4
  ·exact IP _ 2
  ·exact IP _ 3
  ·exact GO _
  ·exact IP _ 1
 exact I1.fpOk hb'<|I1.hok.fresh hb'
theorem yJ{K:Gp}{c1 c2:Src}{xs ys:List V}{g:TG}{tb:TS}{D:Ends}{Y:St}{H:Hp}(Pv:Nat->St->Hp->Prop)(h0:Pv 0 Y H)(hl:∀i Y H,Pv i Y H->c1.has K H xs/\c2.has K H ys)(hn:xs.length=ys.length)
  (hs:∀i x y p Y H,xs[i]? =some x->ys[i]? =some y->H p=none->Pv i Y H->g (.ref p) Y (cN H p<|.tup [x,y]) λσ2 H2=>tb {D with nx:=Pv<|i+1,ct:=Pv<|i+1,bk:=D.nx} σ2 H2) (hd:∀Y H,Pv xs.length Y H->D.nx Y H):
  ∃W:Nat->Nat->St->Hp->Prop,(∃m,W 0 m Y H)/\ ∀i m Y H,W i m Y H->
   ((C8 K c1 c2).stop i H/\D.nx Y H)\/((C8 K c1 c2).go i H/\∃N:St->Hp->Prop,(∀σ' H',N σ' H'->∃m',m'<m/\W (i+1) m' σ' H')/\∀x H',(C8 K c1 c2).yld i H x H'->g x Y H' λσ2 H2=>tb {D with nx:=N,ct:=N,bk:=D.nx} σ2 H2):=by
 refine⟨λi m Y H=>m=xs.length-i/\i<=xs.length/\Pv i Y H,⟨xs.length,by simp,Kp _,h0⟩,?_⟩;rintro i m Y H ⟨rfl,hi,p⟩;obtain⟨q1,q2⟩:=hl i Y H p;by_cases hlt:i<xs.length
 ·refine .inr ⟨⟨xs,ys,xs[i],ys[i],q1,q2,by simp[hlt],by simp[<-hn,hlt]⟩,Pv<|i+1,λσ' H' p'=>⟨xs.length- (i+1),by omega,rfl,hlt,p'⟩,λv H' ⟨a,x,y,na,ev,ex,ey,eh⟩=>?_⟩;subst ev eh;exact hs i x y a Y H (ex xs q1) (ey ys q2) na p
 ·have e:i=xs.length:=by omega
  subst e;exact .inl ⟨⟨xs,ys,q1,q2,.inl rfl⟩,hd Y H p⟩
structure Cal(P:GQ)(w:Ha)(K:Gp)(mg:Str->Option Gv)(base:Heap)(x:Str)(ps:List Str)(k:Nat)(sp:Sp):Prop where
 ex:∃(f:Addr)(fd:GJ),FnOk P w K mg base CX0 k f fd ps sp/\mg x=some (.ref f)/\I9 K (.ref f)=true/\Binds K fd ps []
theorem vP{X:Cx}{x:Str}{ps:List Str}{k:Nat}{sp:Sp}{p pos:Pos}{e:Expr}{es:List Expr}{t:TA}(C:Cal X.prog X.w X.K X.mg X.base x ps k sp)(hr:Room k X.A)(hg:Gl X x)(ha:PA X (e::es) t)
  (hdb:(x==("__debug__" :Str))=false:=by decide) (he:starEach (e::es) X.env=(false,eval e X.env)::starEach es X.env:=by rfl) (hpl:(backTo pos<|starEach es X.env).any (·.1)=false:=by rfl):
  PE X (.Call (.Name x p) (e::es) [] pos) (aU sp [] E0 t):=by
 obtain⟨f,fd,F,hm,hk,hb⟩:=C.ex;exact rC F hr hg hm hk hb .nil rJ ha hdb he hpl
theorem fu{X:Cx}{scope:JH}{N:List Str}{cap:List (Option Nat)}(kind:scope.kind=.function)(nd:N.Nodup)(len:cap.length=N.length)(uniq:(scope.names.map (·.1)).Nodup)
  (fr:(scope.names.all λx=>x.2 != .free||(X.env.kindOf x.1==some .cell||X.env.kindOf x.1==some .free))=true)
  (cp:((N.zip cap).all λp=>match p.2 with|none=>true|some j=>X.N[j]? ==some p.1&&scope.names.contains (p.1,Ie))=true):CompScope X scope N cap:=by
 refine⟨kind,nd,len,uniq,λx hx hk=>?_,λk x j h1 h2=>?_⟩
 ·have:=KU.mp fr x hx;rw[hk]at this;simpa using this
 ·have hm:(x,some j)∈N.zip cap:=by
   rw[MC];exact⟨k,by rw[Js];exact⟨h1,h2⟩⟩
  have:=KU.mp cp _ hm;simpa using this
def flat:V->Bool
 | .non=>true
 | .bl _=>true
 | .int _=>true
 | .str _=>true
 |_=>false
theorem ej{H:Hp}{p:Addr}{o:HO}(h:H p=none):Same H (cN H p o):=λb u e=>by rw[ar<|cW e h];exact e
theorem cQ(x:String)(l:List Nat)(h:(Gq x).cps.toList=l):Gq x=sOf l:=by rw[vG<|Gq x,h]
section
variable{X:Cx}{K:Gp}{w:Ha}
theorem aw(h:X.K=K):BC X (dt K):=h▸AE
theorem bz(h:X.K=K):BC X (cT K):=h▸yB
theorem bP(h:X.K=K):ei X (.builtin "len") (λxs H Q=>∃x n,xs=[x]/\oS K x H n/\Q (.int n) H):=h▸vo
theorem bN(h:X.K=K):ei X (.builtin "isinstance") (λxs H Q=>∃x T t b,xs=[x,.ty T]/\TyOf K H x t/\Hh K t (.type T)=some b/\Q (.bl b) H):=h▸pe
theorem vQ(h:X.K=K):A2 X "str.join" (λx xs H Q=>∃(p:Addr)(ys:List (List Nat)),x=.str (sOf [])/\xs=[.ref p]/\SqL K H p (ys.map λy=>Jp<|sOf y)/\ys.flatten.length<=100000/\Q (.str<|sOf ys.flatten) H):=h▸yI
theorem lC(h:X.K=K):DD X (dw K):=h▸yC
theorem iu(h:X.K=K)(hw:X.w=w){o i:Expr}{pos:Pos}{td ty:TE}(ho:PE X o td)(hi:PE X i ty)(hs:yG i):PE X (.Subscript o i pos) (bo K w td ty):=h▸hw▸vH ho hi hs
theorem cD(h:X.K=K){pos:Pos}{es:List Expr}{k:Nat}{t:yr}{n:Nat}(hc:X.calm=true)(hg:BB X es t)(hn:(assignEach es X.env).length=n:=by rfl)(hst:(assignEach es X.env).findIdx? (·.1)=none:=by rfl):PG X (.Tuple es k pos) (d6 K n t):=h▸Au hc hg hn hst
theorem cy(h:X.K=K){tg l:Expr}{tl:TE}(hl:PE X l tl):PI X tg l (oP K tl):=h▸yu hl
theorem fA(h:X.K=K){a b:Expr}{ta:TA}{p pos tp:Pos}{Z5:List Expr}{kk:Nat}(hg:Gl X "zip")(hm:X.mg "zip"=none)(ha:PA X [a,b] ta)
  (hs:starEach [a,b] X.env=[(false,eval a X.env),(false,eval b X.env)]:=by rfl) (hs2:starEach [b] X.env=[(false,eval b X.env)]:=by rfl):PI X (.Tuple Z5 kk tp) (.Call (.Name "zip" p) [a,b] [] pos) (AL K ta):=h▸AM hg hm ha hs hs2
theorem gF(h:X.K=K){o e:Expr}{es:List Expr}{to:TE}{t:TA}{name:Str}{Z7 Z8:Pos}{T id:String}{r:V->List V->Hp->VK->Prop}(pa:N8 T)(slot:Slot T name id)(hty:typeOf (.builtin id)=pure (.type "method_descriptor"))(hm:A2 X id r)(ho:PE X o to)(ha:PA X (e::es) t)
  (hbase:attributeBase o name X.env (eval o X.env)=eval o X.env:=by rfl)
  (hfew:((backTo Z8<|starEach (e::es) X.env).all (λx=> !x.1)&&(backToKw Z8<|keywordEach [] X.env).all (λx=>x.1.isSome)&&decide ((e::es).length+([]:List Mf).length+(if([]:List Mf).isEmpty then 0 else 1)<30))=true:=by rfl)
  (hline:(Z7.endLine==Z8.line)=true:=by rfl) (hs:starEach (e::es) X.env=(false,eval e X.env)::starEach es X.env:=by rfl) (hplain:(backTo Z8<|starEach es X.env).any (·.1)=false:=by rfl):
  PE X (.Call (.Attribute o name Z7) (e::es) [] Z8) (fy K T r to t):=h▸C0 pa slot hty hm ho ha hbase hfew hline hs hplain
end
end L2
open L2.Src renaming at_keep->Ld,at_obj->LD,draws->Ma,iter->PN,inj->Qg
namespace Wb
open PySem L2
abbrev Rp(O:Type):=Hp->O->V->Prop
class Mono{O:Type}(R:Rp O):Prop where
 mono:∀{H H':Hp}{m:O}{v:V},Same H H'->R H m v->R H' m v
def LR{O:Type}(R:Rp O)(H:Hp)(ms:List O)(vs:List V):Prop:=vs.length=ms.length/\∀(i:Nat)(v:V)(m:O),vs[i]? =some v->ms[i]? =some m->R H m v
theorem LR.nil{O:Type}{R:Rp O}{H:Hp}:LR R H [] []:=⟨rfl,λi v m e=>by simp at e⟩
theorem LR.same{O:Type}{R:Rp O}[Mono R]{H H':Hp}{ms:List O}{vs:List V}(h:LR R H ms vs)(e:Same H H'):LR R H' ms vs:=⟨h.1,λi v m a b=>Mono.mono e<|h.2 i v m a b⟩
theorem LR.snoc{O:Type}{R:Rp O}{H:Hp}{ms:List O}{vs:List V}{m:O}{v:V}(h:LR R H ms vs)(r:R H m v):LR R H (ms++[m]) (vs++[v]):=by
 refine⟨by simp[h.1],λi v' m' a b=>?_⟩;by_cases hi:i<vs.length
 ·rw[Hu hi]at a;rw[Hu (by rw[<-h.1];exact hi)]at b;exact h.2 i v' m' a b
 ·rw[Hm (by omega)]at a;rw[Hm (by rw[<-h.1];omega)]at b;rw[<-h.1]at b;cases e:i-vs.length with
  |zero=>rw[e]at a b;simp at a b;subst a b;exact r
  |succ n=>rw[e]at a;simp at a
theorem LR.get{O:Type}{R:Rp O}{H:Hp}{ms:List O}{vs:List V}{i:Nat}{m:O}(h:LR R H ms vs)(e:ms[i]? =some m):∃v,vs[i]? =some v/\R H m v:=by
 have hi:i<vs.length:=by rw[h.1];exact(Gx.mp e).1
 exact⟨vs[i],by simp[hi],h.2 i _ m (by simp[hi]) e⟩
theorem LR.got{O:Type}{R:Rp O}{H:Hp}{ms:List O}{vs:List V}{i:Nat}{v:V}(h:LR R H ms vs)(e:vs[i]? =some v):∃m,ms[i]? =some m/\R H m v:=by
 have hi:i<ms.length:=by rw[<-h.1];exact(Gx.mp e).1
 exact⟨ms[i],by simp[hi],h.2 i v _ e (by simp[hi])⟩
def isL{O:Type}(R:Rp O):Rp (List O):=λH ms v=>∃p vs,v=.ref p/\H p=some (.lst vs)/\LR R H ms vs
instance zkeep1{O:Type}{R:Rp O}[Mono R]:Mono (isL R):=⟨λe⟨p,vs,h1,h2,h3⟩=>⟨p,vs,h1,e _ _ h2,h3.same e⟩⟩
def isS:Rp (List Nat):=λ_ l v=>v=.str (sOf l)
instance zkeep2:Mono isS:=⟨λ_ h=>h⟩
def isI:Rp Int:=λ_ l v=>v=.int l
instance zkeep4:Mono isI:=⟨λ_ h=>h⟩
theorem LR.str{H:Hp}{ms:List (List Nat)}{vs:List V}(h:LR isS H ms vs):vs=ms.map λl=>Jp (sOf l):=by
 refine KC λi=>?_;rw[Hd];cases e:ms[i]? with
 |none=>rw[Hv]at e;rw[Hv.mpr (by rw[h.1];exact e)];rfl
 |some m=>obtain⟨v,a,b⟩:=h.get e;rw[a];cases b;rfl
end Wb
open Wb.Mono renaming mono->Gm
namespace L2
open PySem PySem.Spec PyProof.Rows
section
variable{X:Cx}{K:Gp}{w:Ha}
theorem cM(h:X.K=K):ei X (.type "list") (λxs H Q=>∃p ys,xs=[.ref p]/\(SqL K H p ys\/SqT K H p ys)/\∀l,H l=none->Q (.ref l) (cN H l<|.lst ys)):=h▸nN
theorem iw(h:X.K=K){o:Expr}{to:TE}{name:Str}{Z7 Z8:Pos}{T id:String}{r:V->List V->Hp->VK->Prop}(pa:N8 T)(slot:Slot T name id)(hty:typeOf (.builtin id)=pure (.type "method_descriptor"))(hm:A2 X id r)(ho:PE X o to)
  (hbase:attributeBase o name X.env (eval o X.env)=eval o X.env:=by rfl) (hline:(Z7.endLine==Z8.line)=true:=by rfl):PE X (.Call (.Attribute o name Z7) [] [] Z8) (dm K T r to):=h▸AF pa slot hty hm ho hbase hline
end
end L2
namespace Wb
open PySem L2
theorem LR.take{O:Type}{R:Rp O}{H:Hp}{ms:List O}{vs:List V}(h:LR R H ms vs)(k:Nat):LR R H (ms.take k) (vs.take k):=by
 refine⟨by simp[h.1],λi v m a b=>?_⟩;rw[List.getElem?_take]at a b;split at a;·rw[Z1 (by assumption)]at b;exact h.2 i v m a b
 ·cases a
theorem LR.drop{O:Type}{R:Rp O}{H:Hp}{ms:List O}{vs:List V}(h:LR R H ms vs)(k:Nat):LR R H (ms.drop k) (vs.drop k):=by
 refine⟨by simp[h.1],λi v m a b=>?_⟩;rw[List.getElem?_drop]at a b;exact h.2 _ v m a b
theorem none_of{H H':Hp}{p:Addr}(e:Same H H')(h:H' p=none):H p=none:=by
 cases z:H p with
 |none=>rfl
 |some x=>have:=e _ _ z;rw[h]at this;cases this
theorem tP{H H3:Hp}{p:Addr}{o:HO}(e:Same H H3)(h:H p=none):Same H (cN H3 p o):=λa u z=>by
 rw[ar<|cW z h];exact e _ _ z
end Wb
namespace L2
open PySem PySem.Spec PyProof.Rows
section
variable{X:Cx}{K:Gp}{w:Ha}
theorem tQ(hc:X.calm=true)(h:X.K=K):ei X (.builtin "max") (λxs H Q=>∃(p:Addr)(ns:List Int),xs=[.ref p]/\SqL K H p (ns.map Kf)/\0<ns.length/\∀M,M∈ns->(∀a∈ns,a<=M)->Q (.int M) H):=by
 subst h;intro Z_ s Y H xs us Q I r h;obtain⟨p,ns,rfl,hq,hne,q⟩:=h;obtain⟨u,rfl,rx⟩:=fx r;cases rx;obtain⟨its,r',pl,hz⟩:=I.list hq;have hi:=lh r';obtain⟨xs,e⟩:=hi.allInts.items;have hns:ns=xs.toList.map (·.1):=by
  rw[<-hi.numsOf,<-P9,<-e]
 have hsz:0<xs.size:=by
  have h3:=hne;rw[hns,GR,HU]at h3;exact h3
 have hl:s.heap.IsList p (intItems xs):=e▸pl.isList;refine max_intList (I.ok.hd hc) hl hsz λv h' tk hv hk=>?_;obtain⟨t,rfl⟩:=intItems_at hv;obtain⟨h1,h2⟩:=argBest_gt (numAt xs)<|xs.size-1;refine⟨.int _,H,I.kept hk,⟨_,rfl⟩,q _ ?_ λa ha=>?_⟩;·rw[hns,Oy];exact getD_mem (by rw[GR,HU];omega)
 ·rw[hns]at ha;obtain⟨j,hj,rfl⟩:=mem_getD ha;rw[GR,HU]at hj;rw[<-Oy];exact h2 j (by omega)
end
theorem iy{O B:Type}{F:O->B->Prop}:∀{l₁:List O}{l₂:List B},Paired F l₁ l₂->∀{j:Nat}{b:B},l₂[j]? =some b->∃a,l₁[j]? =some a/\F a b
 |_,_,.nil,j,b,h=>by simp at h
 |_,_,.cons r rs,0,b,h=>by simp at h;subst h;exact⟨_,rfl,r⟩
 |_,_,.cons r rs,j+1,b,h=>by simp at h;obtain⟨a,h1,h2⟩:=iy rs h;exact⟨a,by simpa using h1,h2⟩
end L2
namespace L2
theorem dZ{k:Nat}{A:Hf}(r:Room k A):A.units+1<PySem.cLine:=by have:=r.un;omega
end L2
namespace L2
open PySem PySem.Spec PyProof.Rows
abbrev cX(h:Heap)(T:Addr)(a b c:Gv):Prop:=h.get? T=some {cls:=.type "tuple",data:=.seq #[a,b,c]}
def C9(h:Heap)(o1 o2 o3:Obj):Heap:=(((h.push o1).push o2).push o3).push {cls:=.type "tuple",data:=.seq #[.ref h.objs.size,.ref (h.push o1).objs.size,.ref ((h.push o1).push o2).objs.size]}
def Ca(h:Heap)(o1 o2 o3:Obj):Heap:=(C9 h o1 o2 o3).push {cls:=.type "tuple",data:=.seq #[.none,.none,.none]}
def AN(h:Heap)(o1 o2 o3:Obj):Heap:=(Ca h o1 o2 o3).push {cls:=.type "zip",data:=.fields #[.none,.bool false,.bool false,.ref (((h.push o1).push o2).push o3).objs.size,.ref (C9 h o1 o2 o3).objs.size]}
theorem m9(v1 v2 v3:Gv)(o1 o2 o3:Obj):Meets (MS.«zip.__new__» ⟨[.type "zip",v1,v2,v3],[]⟩) (λ_ R s=>fK v1 s.heap o1/\fK v2 (s.heap.push o1) o2/\fK v3 ((s.heap.push o1).push o2) o3/\R (.ok<|.ret<|.ref (Ca s.heap o1 o2 o3).objs.size) {s with heap:=AN s.heap o1 o2 o3}):=
 .of_wp λprog w A R s h=>by
  obtain⟨hp,g,d,tk,os⟩:=s;obtain⟨i1,i2,i3,h⟩:=h;have hsub:=sub_zip;have j1:=λ(A:Hf)(E:Gv->Gw->Prop)(Q:Gv->Gw->Prop)(q:Q _ _)=>i1 prog w A E Q ⟨hp,g,d,tk,os⟩ rfl q;have j2:=λ(A:Hf)(E:Gv->Gw->Prop)(Q:Gv->Gw->Prop)(q:Q _ _)=>i2 prog w A E Q ⟨hp.push o1,g,d,tk,os⟩ rfl q;have j3:=λ(A:Hf)(E:Gv->Gw->Prop)(Q:Gv->Gw->Prop)(q:Q _ _)=>i3 prog w A E Q ⟨(hp.push o1).push o2,g,d,tk,os⟩ rfl q
  wp_walk using j1 _ _ _,j2 _ _ _,j3 _ _ _
  exact⟨_,rfl,h⟩
theorem lD(a b c:Gv):checkTypeCall "zip" ⟨[a,b,c],[]⟩=pure ():=by kernel_rfl
theorem me(a b c:Gv):checkBuiltinCall "zip.__new__" ⟨[.type "zip",a,b,c],[]⟩=pure ():=by kernel_rfl
theorem iW(a b c d:Gv):argsOk "object.__init__" ⟨[a,b,c,d],[]⟩:=by
 unfold argsOk;rw[PySem.signature?_of (id:="object.__init__") (n:=['_','_','t','i','n','i','_','_']) (o:=['t','c','e','j','b','o']) (by kernel_rfl) PySem.F.owner_object];kernel_rfl
theorem tR{P:GQ}{w:Ha}{A:Hf}{E:Gv->Gw->Prop}{s:Gw}{v1 v2 v3:Gv}{o1 o2 o3:Obj}{Q:Gv->Gw->Prop}(i1:fK v1 s.heap o1)(i2:fK v2 (s.heap.push o1) o2)(i3:fK v3 ((s.heap.push o1).push o2) o3)
  (f1:o1.isFreed=false) (f2:o2.isFreed=false) (f3:o3.isFreed=false)
  (q:∀h',JI h' (s.heap.objs.size+5) (s.heap.objs.size+3) (s.heap.objs.size+4) .none->cX h' (s.heap.objs.size+3) (.ref s.heap.objs.size) (.ref<|s.heap.objs.size+1) (.ref<|s.heap.objs.size+2)->cX h' (s.heap.objs.size+4) .none .none .none->
   h'.get? s.heap.objs.size=some o1->h'.get? (s.heap.objs.size+1)=some o2->h'.get? (s.heap.objs.size+2)=some o3->(∀c o,s.heap.get? c=some o->h'.get? c=some o)->Q (.ref (s.heap.objs.size+5)) {s with heap:=h'}):
  wpAny (model P w) A (call (.type "zip") [v1,v2,v3]) Q E s:=by
 refine callType_new Nc ⋯ (lD _ _ _) (me _ _ _) (λobj=>iW obj _ _ _) MA (m9 v1 v2 v3 o1 o2 o3) ⟨i1,i2,i3,?_⟩;have z1:(s.heap.push o1).objs.size=s.heap.objs.size+1:=Hz ..;have z2:((s.heap.push o1).push o2).objs.size=s.heap.objs.size+2:=by rw[Hz,z1]
 have z3:(((s.heap.push o1).push o2).push o3).objs.size=s.heap.objs.size+3:=by rw[Hz,z2]
 have z4:(C9 s.heap o1 o2 o3).objs.size=s.heap.objs.size+4:=by unfold C9;rw[Hz,z3]
 have z5:(Ca s.heap o1 o2 o3).objs.size=s.heap.objs.size+5:=by unfold Ca;rw[Hz,z4]
 have g6:(AN s.heap o1 o2 o3).get? (Ca s.heap o1 o2 o3).objs.size=some _:=GA _ rfl;have g5:(AN s.heap o1 o2 o3).get? (C9 s.heap o1 o2 o3).objs.size=some _:=Gu _<|GA _ rfl;have g4:(AN s.heap o1 o2 o3).get? (((s.heap.push o1).push o2).push o3).objs.size=some _:=Gu _<|Gu _<|GA _ rfl;have g3:(AN s.heap o1 o2 o3).get? ((s.heap.push o1).push o2).objs.size=some o3:=Gu _<|Gu _<|Gu _<|GA _ f3;have g2:(AN s.heap o1 o2 o3).get? (s.heap.push o1).objs.size=some o2:=Gu _<|Gu _<|Gu _<|Gu _<|GA _ f2;have g1:(AN s.heap o1 o2 o3).get? s.heap.objs.size=some o1:=Gu _<|Gu _<|Gu _<|Gu _<|Gu _<|GA _ f1;show _/\_;rw[z3,z4,z5]at g6;rw[z1,z2,z3]at g4;rw[z4]at g5;rw[z2]at g3;rw[z1]at g2;rw[z5];exact⟨⟨_,g6,rfl⟩,q _ g6 g4 g5 g1 g2 g3 λc o x=>Gu _<|Gu _<|Gu _<|Gu _<|Gu _<|Gu _ x⟩
section
variable{P:GQ}{w:Ha}{A:Hf}{E:Gv->Gw->Prop}{s:Gw}{z TI TO i1 i2 i3:Addr}{fp1 fp2 fp3:List Addr}{n1 n2 n3 k:Nat}{P1 P2 P3:Nat->Gv->Prop}{S1 S2 S3:Nat->Heap->Prop}{a b c:Gv}
theorem cz{T:Addr}{a b c x:Gv}{k:Nat}{Q:Unit->Gw->Prop}(hT:cX s.heap T a b c)
  (h:∀h',h'.get? T=some {cls:=.type "tuple",data:=.seq ((#[a,b,c]:Array Gv).setIfInBounds k x)}->GW T s.heap h'->Q () {s with heap:=h'}):
  wpAny (model P w) A (updateSeq T (·.setIfInBounds k x)) Q E s:=by
 refine wpAny_updateSeq hT rfl<|h _ ?_<|Jd ..;rw[HS _ hT rfl];simp[Lx]
structure ZApart3(z TI TO i1 i2 i3:Addr)(fp1 fp2 fp3:List Addr):Prop where
 c1:TI≠z
 c2:TO≠z
 c3:i1≠z
 c4:i2≠z
 c4':i3≠z
 c5:TI≠TO
 c6:TI≠i1
 c7:TI≠i2
 c7':TI≠i3
 c8:TO≠i1
 c9:TO≠i2
 c9':TO≠i3
 d1:z∉fp1/\TO∉fp1/\i2∉fp1/\i3∉fp1
 d2:z∉fp2/\TO∉fp2/\i1∉fp2/\i3∉fp2
 d3:z∉fp3/\TO∉fp3/\i1∉fp3/\i2∉fp3
theorem tS{Q:Option Gv->Gw->Prop}(D1:Ms P w A.in1 i1 fp1 n1 P1 S1)(D2:Ms P w A.in1 i2 fp2 n2 P2 S2)(D3:Ms P w A.in1 i3 fp3 n3 P3 S3)(Z:ZApart3 z TI TO i1 i2 i3 fp1 fp2 fp3)(h1:k<n1)(h2:k<n2)(h3:k<n3)(hz:JI s.heap z TI TO .none)
  (hI:cX s.heap TI (.ref i1) (.ref i2) (.ref i3)) (hO:cX s.heap TO a b c) (t1:S1 k s.heap) (t2:S2 k s.heap) (t3:S3 k s.heap)
  (q:∀x y u h' tk T,P1 k x->P2 k y->P3 k u->T=s.heap.objs.size->JI h' z TI TO (rawInt T)->cX h' TO x y u->S1 (k+1) h'->S2 (k+1) h'->S3 (k+1) h'->cX h' T x y u->
   (∀c o,c≠z->c≠TO->c≠i1->c≠i2->c≠i3->s.heap.get? c=some o->h'.get? c=some o)->Q (some (.ref T)) {s with heap:=h',toks:=tk}):
  wpAny (model P w) A (pyNext<|.ref z) Q E s:=by
 have hT:s.TypeIs (.ref z) "zip":=⟨_,hz,rfl⟩
 unfold pyNext;refine Gn<|J5<|HC (name:=Gq "__next__") hT Ih<|HK Ih hT JO ?_<|JG _;obtain⟨hp,gg,dd,tk0,os⟩:=s;show wpAny (model P w) _ (field (.ref z) 2>>=_) _ _ _;refine Gn<|He hz rfl (x:=.bool false) rfl ?_;show wpAny (model P w) _ (field (.ref z) 3>>=_) _ _ _;refine Gn<|He hz rfl (x:=.ref TI) rfl<|Gn<|HA hI rfl ?_;show wpAny (model P w) _ (Hi (.ref z)>>=_) _ _ _;refine Gn ?_;unfold Hi;refine Gn<|He hz rfl (x:=.none) rfl<|Gy ?_;simp only[if_true];refine Gn (KQ (Gn (He hz rfl (x:=.ref TO) rfl (Gn (HF hz (by simp) λg1 y1 b1=>?_)))));replace y1:JI g1 z TI TO .ellipsis:=y1;replace b1:GW z hp g1:=b1;refine Gn ?_;simp only[KR,Lh,Ki,KA];refine Gn<|Gn<|J6 ?_;show wpAny (model P w) _ (GY (.ref i1)>>=_) _ _ _;refine Gn<|D1.item k _ _ _ h1 (ay D1 t1 b1 Z.d1.1) λx g2 tk2 px u1 b2=>Gy ?_;replace b2:GW i1 g1 g2:=b2;have O2:cX g2 TO a b c:=b2.extBut _ _ Z.c8<|b1.extBut _ _ Z.c2 hO;refine Gn<|HA O2 rfl<|Gn<|cz O2 λg3 O3 b3=>?_;replace O3:cX g3 TO x b c:=O3;replace b3:GW TO g2 g3:=b3;refine Gn<|K8<|Gy<|Gn<|Gn<|J6 ?_;show wpAny (model P w) _ (GY (.ref i2)>>=_) _ _ _;refine Gn<|D2.item k _ _ _ h2 (ay D2 (ay D2 (ay D2 t2 b1 Z.d2.1) b2 Z.d2.2.2.1) b3 Z.d2.2.1) λy g4 tk4 py u2 b4=>Gy ?_;replace b4:GW i2 g3 g4:=b4;have O4:cX g4 TO x b c:=b4.extBut _ _ Z.c9 O3;refine Gn<|HA O4 rfl<|Gn<|cz O4 λg5 O5 b5=>?_;replace O5:cX g5 TO x y c:=O5;replace b5:GW TO g4 g5:=b5;refine Gn<|K8<|Gy<|Gn<|Gn<|J6 ?_;show wpAny (model P w) _ (GY (.ref i3)>>=_) _ _ _;refine Gn<|D3.item k _ _ _ h3 (ay D3 (ay D3 (ay D3 (ay D3 (ay D3 t3 b1 Z.d3.1) b2 Z.d3.2.2.1) b3 Z.d3.2.1) b4 Z.d3.2.2.2) b5 Z.d3.2.1) λu g6 tk6 pu u3 b6=>Gy ?_;replace b6:GW i3 g5 g6:=b6;have O6:cX g6 TO x y c:=b6.extBut _ _ Z.c9' O5;refine Gn<|HA O6 rfl<|Gn<|cz O6 λg7 O7 b7=>?_;replace O7:cX g7 TO x y u:=O7;replace b7:GW TO g6 g7:=b7;refine Gn<|K8<|Gy<|Gy<|Gn<|HA O7 rfl<|Gn<|Ox ?_;have sz:g7.objs.size=hp.objs.size:=by rw[b7.1,b6.1,b5.1,b4.1,b3.1,b2.1,b1.1]
 have y7:JI g7 z TI TO .ellipsis:=b7.extBut _ _ Z.c2.symm<|b6.extBut _ _ Z.c4'.symm<|b5.extBut _ _ Z.c2.symm<|b4.extBut _ _ Z.c4.symm<|b3.extBut _ _ Z.c2.symm<|b2.extBut _ _ Z.c3.symm y1;have k7:∀c o,c≠z->c≠TO->c≠i1->c≠i2->c≠i3->hp.get? c=some o->g7.get? c=some o:=λc o e1 e2 e3 e4 e5 e=>b7.extBut _ _ e2<|b6.extBut _ _ e5<|b5.extBut _ _ e2<|b4.extBut _ _ e4<|b3.extBut _ _ e2<|b2.extBut _ _ e3<|b1.extBut _ _ e1 e;have v1:S1 (k+1) g7:=ay D1 (ay D1 (ay D1 (ay D1 (ay D1 u1 b3 Z.d1.2.1) b4 Z.d1.2.2.1) b5 Z.d1.2.1) b6 Z.d1.2.2.2) b7 Z.d1.2.1;have v2:S2 (k+1) g7:=ay D2 (ay D2 (ay D2 u2 b5 Z.d2.2.1) b6 Z.d2.2.2.2) b7 Z.d2.2.1;have v3:S3 (k+1) g7:=ay D3 u3 b7 Z.d3.2.1;have lz:z<g7.objs.size:=GF y7;show wpAny (model P w) _ (IA (.ref z) (.ref g7.objs.size)>>=_) _ _ _;refine Gn ?_;unfold IA;have y8:JI (g7.push {cls:=.type "tuple",data:=.seq #[x,y,u]}) z TI TO .ellipsis:=Gu _ y7;refine Gn (HF y8 (by simp) λg9 y9 b9=>?_);replace y9:JI g9 z TI TO (rawInt g7.objs.size):=y9;replace b9:GW z (g7.push {cls:=.type "tuple",data:=.seq #[x,y,u]}) g9:=b9;refine HF y9 (by simp) λa0 a2 a1=>?_;replace a2:JI a0 z TI TO (rawInt g7.objs.size):=a2;replace a1:GW z g9 a0:=a1;have up:∀c o,c≠z->g7.get? c=some o->a0.get? c=some o:=λc o e1 e=>a1.extBut _ _ e1<|b9.extBut _ _ e1<|Gu _ e;have T8:cX a0 g7.objs.size x y u:=a1.extBut _ _ (Jg lz)<|b9.extBut _ _ (Jg lz)<|GA _ rfl;refine Gy ⟨_,rfl,Gy<|q x y u a0 _ g7.objs.size px py pu sz a2 (up _ _ Z.c2 O7) (D1.frame _ _ _ v1 λb hb o e=>up b o (λq=>Z.d1.1<|q▸hb) e) (D2.frame _ _ _ v2 λb hb o e=>up b o (λq=>Z.d2.1<|q▸hb) e) (D3.frame _ _ _ v3 λb hb o e=>up b o (λq=>Z.d3.1<|q▸hb) e) T8 λc o e1 e2 e3 e4 e5 e=>up c o e1<|k7 c o e1 e2 e3 e4 e5 e⟩
theorem vR{Q:Option Gv->Gw->Prop}(hh:A.handled=none)(D1:Ms P w A.in1 i1 fp1 n1 P1 S1)(D2:Ms P w A.in1 i2 fp2 n2 P2 S2)(D3:Ms P w A.in1 i3 fp3 n3 P3 S3)(Z:ZApart3 z TI TO i1 i2 i3 fp1 fp2 fp3)(hk:k=n1\/(k<n1/\k=n2)\/(k<n1/\k<n2/\k=n3))(hz:JI s.heap z TI TO .none)
  (hI:cX s.heap TI (.ref i1) (.ref i2) (.ref i3)) (hO:cX s.heap TO a b c) (t1:S1 k s.heap) (t2:S2 k s.heap) (t3:S3 k s.heap)
  (q:∀h' tk,(∀c o,c≠z->c≠TO->c≠i1->c≠i2->c≠i3->s.heap.get? c=some o->h'.get? c=some o)->Q none {s with heap:=h',toks:=tk}):
  wpAny (model P w) A (pyNext<|.ref z) Q E s:=by
 have hT:s.TypeIs (.ref z) "zip":=⟨_,hz,rfl⟩
 unfold pyNext;refine Gn<|J5<|HC (name:=Gq "__next__") hT Ih<|HK Ih hT JO ?_<|JG _;obtain⟨hp,gg,dd,tk0,os⟩:=s;show wpAny (model P w) _ (field (.ref z) 2>>=_) _ _ _;refine Gn<|He hz rfl (x:=.bool false) rfl ?_;show wpAny (model P w) _ (field (.ref z) 3>>=_) _ _ _;refine Gn<|He hz rfl (x:=.ref TI) rfl<|Gn<|HA hI rfl ?_;show wpAny (model P w) _ (Hi (.ref z)>>=_) _ _ _;refine Gn ?_;unfold Hi;refine Gn<|He hz rfl (x:=.none) rfl<|Gy ?_;simp only[if_true];refine Gn (KQ (Gn (He hz rfl (x:=.ref TO) rfl (Gn (HF hz (by simp) λg1 y1 b1=>?_)))));replace y1:JI g1 z TI TO .ellipsis:=y1;replace b1:GW z hp g1:=b1;refine Gn ?_;simp only[KR,Lh,Ki,KA];refine Gn<|Gn<|J6 ?_;show wpAny (model P w) _ (GY (.ref i1)>>=_) _ _ _;rcases hk with hk|hk
 ·subst hk;refine Gn<|D1.done _ _ _ (ay D1 t1 b1 Z.d1.1) λg2 e b2 he=>?_;obtain⟨oe,hoe,hce⟩:=he;replace b2:Jk i1 g1 g2:=b2;have y2:JI g2 z TI TO .ellipsis:=b2 _ _ Z.c3.symm y1;have ez:e≠z:=λx=>by subst x;rw[y2]at hoe;cases hoe;simp at hce
  refine HF y2 (by simp) λg3 _ b3=>?_;exact Gn<|J4 (T:="StopIteration") (b:=true) ⟨oe,b3.extBut _ _ ez hoe,hce⟩ Jn<|Gy<|q g3 _ λc o e1 _ e3 _ _ x=>b3.extBut _ _ e1<|b2 _ _ e3<|b1.extBut _ _ e1 x
 ·have hk1:k< n1:=by rcases hk with z | z <;> exact z.1
  refine Gn<|D1.item k _ _ _ hk1 (ay D1 t1 b1 Z.d1.1) λx g2 tk2 px u1 b2=>Gy ?_;replace b2:GW i1 g1 g2:=b2;have O2:cX g2 TO a b c:=b2.extBut _ _ Z.c8<|b1.extBut _ _ Z.c2 hO;refine Gn<|HA O2 rfl<|Gn<|cz O2 λg3 O3 b3=>?_;replace b3:GW TO g2 g3:=b3;replace O3:cX g3 TO x b c:=O3;refine Gn<|K8<|Gy<|Gn<|Gn<|J6 ?_;show wpAny (model P w) _ (GY (.ref i2)>>=_) _ _ _;rcases hk with⟨_,hk2⟩|⟨_,hk2,hk3⟩
  ·subst hk2;refine Gn<|D2.done _ _ _ (ay D2 (ay D2 (ay D2 t2 b1 Z.d2.1) b2 Z.d2.2.2.1) b3 Z.d2.2.1) λg4 e b4 he=>?_;obtain⟨oe,hoe,hce⟩:=he;replace b4:Jk i2 g3 g4:=b4;have y4:JI g4 z TI TO .ellipsis:=b4 _ _ Z.c4.symm<|b3.extBut _ _ Z.c2.symm<|b2.extBut _ _ Z.c3.symm y1;have ez:e≠z:=λx=>by subst x;rw[y4]at hoe;cases hoe;simp at hce
   refine HF y4 (by simp) λg5 _ b5=>?_;exact Gn<|J4 (T:="StopIteration") (b:=true) ⟨oe,b5.extBut _ _ ez hoe,hce⟩ Jn<|Gy<|q g5 _ λc o e1 e2 e3 e4 _ x=>b5.extBut _ _ e1<|b4 _ _ e4<|b3.extBut _ _ e2<|b2.extBut _ _ e3<|b1.extBut _ _ e1 x
  ·subst hk3;refine Gn<|D2.item k _ _ _ hk2 (ay D2 (ay D2 (ay D2 t2 b1 Z.d2.1) b2 Z.d2.2.2.1) b3 Z.d2.2.1) λy g4 tk4 py u2 b4=>Gy ?_;replace b4:GW i2 g3 g4:=b4;have O4:cX g4 TO x b c:=b4.extBut _ _ Z.c9 O3;refine Gn<|HA O4 rfl<|Gn<|cz O4 λg5 O5 b5=>?_;replace b5:GW TO g4 g5:=b5;refine Gn<|K8<|Gy<|Gn<|Gn<|J6 ?_;show wpAny (model P w) _ (GY (.ref i3)>>=_) _ _ _;refine Gn<|D3.done _ _ _ (ay D3 (ay D3 (ay D3 (ay D3 (ay D3 t3 b1 Z.d3.1) b2 Z.d3.2.2.1) b3 Z.d3.2.1) b4 Z.d3.2.2.2) b5 Z.d3.2.1) λg6 e b6 he=>?_;obtain⟨oe,hoe,hce⟩:=he;replace b6:Jk i3 g5 g6:=b6;have y6:JI g6 z TI TO .ellipsis:=b6 _ _ Z.c4'.symm<|b5.extBut _ _ Z.c2.symm<|b4.extBut _ _ Z.c4.symm<|b3.extBut _ _ Z.c2.symm<|b2.extBut _ _ Z.c3.symm y1;have ez:e≠z:=λx=>by subst x;rw[y6]at hoe;cases hoe;simp at hce
   refine HF y6 (by simp) λg7 _ b7=>?_;exact Gn<|J4 (T:="StopIteration") (b:=true) ⟨oe,b7.extBut _ _ ez hoe,hce⟩ Jn<|Gy<|q g7 _ λc o e1 e2 e3 e4 e5 x=>b7.extBut _ _ e1<|b6 _ _ e5<|b5.extBut _ _ e2<|b4.extBut _ _ e4<|b3.extBut _ _ e2<|b2.extBut _ _ e3<|b1.extBut _ _ e1 x
end
def Cb(K:Gp)(c1 c2 c3:Src):It:=
  ⟨λi H=>∃xs ys us x y u,c1.has K H xs/\c2.has K H ys/\c3.has K H us/\xs[i]? =some x/\ys[i]? =some y/\us[i]? =some u,
   λi H v H'=>∃p x y u,H p=none/\v=.ref p/\(∀xs,c1.has K H xs->xs[i]? =some x)/\(∀ys,c2.has K H ys->ys[i]? =some y)/\(∀us,c3.has K H us->us[i]? =some u)/\H'=cN H p (.tup [x,y,u]),
   λi H=>∃xs ys us,c1.has K H xs/\c2.has K H ys/\c3.has K H us/\(i=xs.length\/(i<xs.length/\i=ys.length)\/(i<xs.length/\i<ys.length/\i=us.length))⟩
def Ez(c1 c2 c3:Src)(z TI TO i1 i2 i3:Addr)(i:Nat)(h:Heap):Prop:=JI h z TI TO .none/\cX h TI (.ref i1) (.ref i2) (.ref i3)/\(∃a b c,cX h TO a b c)/\c1.at i1 i h/\c2.at i2 i h/\c3.at i3 i h
structure ZIds3(z TI TO i1 i2 i3:Addr):Prop where
 c1:TI≠z
 c2:TO≠z
 c3:i1≠z
 c4:i2≠z
 c4':i3≠z
 c5:TI≠TO
 c6:TI≠i1
 c7:TI≠i2
 c7':TI≠i3
 c8:TO≠i1
 c9:TO≠i2
 c9':TO≠i3
 c10:i1≠i2
 c11:i1≠i3
 c12:i2≠i3
theorem rL{X:Cx}{Z_:List (Addr×Obj)}{Y:St}{H:Hp}{s:Gw}{z TI TO i1 i2 i3:Addr}{fp1 fp2 fp3:List Addr}(I:Inv X Z_ Y H s)(Z:ZIds3 z TI TO i1 i2 i3)(hf:∀b∈[z,TI,TO,i1,i2,i3],FpOk X Z_ H b)
  (g1:∀b∈fp1,b=i1\/H b≠none\/∃o,X.base.get? b=some o) (g2:∀b∈fp2,b=i2\/H b≠none\/∃o,X.base.get? b=some o) (g3:∀b∈fp3,b=i3\/H b≠none\/∃o,X.base.get? b=some o):ZApart3 z TI TO i1 i2 i3 fp1 fp2 fp3:=by
 have no:∀b∈[z,TI,TO,i1,i2,i3],¬(H b≠none\/∃o,X.base.get? b=some o):=λb hb q=>by
  rcases q with q|⟨o,q⟩
  ·exact q (hf b hb).1
  ·rcases (hf b hb).2.2.2.1 with y | y;·exact I.ok.noex b o q y
   ·exact absurd (GC (GC (GF q) I.ok.bsz) y)<|Hx _
 refine⟨Z.c1,Z.c2,Z.c3,Z.c4,Z.c4',Z.c5,Z.c6,Z.c7,Z.c7',Z.c8,Z.c9,Z.c9',⟨λm=>?_,λm=>?_,λm=>?_,λm=>?_⟩,⟨λm=>?_,λm=>?_,λm=>?_,λm=>?_⟩,⟨λm=>?_,λm=>?_,λm=>?_,λm=>?_⟩⟩;·exact(g1 _ m).elim (λe=>Z.c3 e.symm) (no z (by simp))
 ·exact(g1 _ m).elim (λe=>Z.c8 e) (no TO (by simp))
 ·exact(g1 _ m).elim (λe=>Z.c10 e.symm) (no i2 (by simp))
 ·exact(g1 _ m).elim (λe=>Z.c11 e.symm) (no i3 (by simp))
 ·exact(g2 _ m).elim (λe=>Z.c4 e.symm) (no z (by simp))
 ·exact(g2 _ m).elim (λe=>Z.c9 e) (no TO (by simp))
 ·exact(g2 _ m).elim (λe=>Z.c10 e) (no i1 (by simp))
 ·exact(g2 _ m).elim (λe=>Z.c12 e.symm) (no i3 (by simp))
 ·exact(g3 _ m).elim (λe=>Z.c4' e.symm) (no z (by simp))
 ·exact(g3 _ m).elim (λe=>Z.c9' e) (no TO (by simp))
 ·exact(g3 _ m).elim (λe=>Z.c11 e) (no i1 (by simp))
 ·exact(g3 _ m).elim (λe=>Z.c12 e) (no i2 (by simp))
theorem tT{P:GQ}{w:Ha}{K:Gp}{Z5:List Expr}{kk:Nat}{tp:Pos}(c1 c2 c3:Src)(z TI TO i1 i2 i3:Addr)(Z:ZIds3 z TI TO i1 i2 i3):
  Turn P w K (.Tuple Z5 kk tp) (Cb K c1 c2 c3) [z,TI,TO,i1,i2,i3] z (Ez c1 c2 c3 z TI TO i1 i2 i3) where
 mem:=by simp
 obj:=λi h st b hb=>by
  obtain⟨hz,hI,⟨a,b',c',hO⟩,t1,t2,t3⟩:=st;obtain⟨o1,e1,v1,d1⟩:=LD t1;obtain⟨o2,e2,v2,d2⟩:=LD t2;obtain⟨o3,e3,v3,d3⟩:=LD t3;simp only[GK,HD,or_false]at hb;rcases hb with rfl|rfl|rfl|rfl|rfl|rfl;·exact⟨_,hz,λv q=>by cases (show LM _=Kb v from q)⟩
  ·exact⟨_,hI,λv q=>by cases (show MM _ _=Kb v from q)⟩
  ·exact⟨_,hO,λv q=>by cases (show MM _ _=Kb v from q)⟩
  ·exact⟨_,e1,λv q=>by rw[d1]at q;cases q⟩
  ·exact⟨_,e2,λv q=>by rw[d2]at q;cases q⟩
  ·exact⟨_,e3,λv q=>by rw[d3]at q;cases q⟩
 keep:=λi h h' st k=>by
  obtain⟨hz,hI,⟨a,b',c',hO⟩,t1,t2,t3⟩:=st;exact⟨k z (by simp) _ hz,k TI (by simp) _ hI,⟨a,b',c',k TO (by simp) _ hO⟩,Ld t1 (k i1 (by simp)),Ld t2 (k i2 (by simp)),Ld t3 (k i3 (by simp))⟩
 item:=by
  intro X hP hw hK hc i Z_ s Y H E I hf st hg;subst hP hw hK;obtain⟨xs,ys,us,x,y,u,hx,hy,hu,ex,ey,eu⟩:=hg;obtain⟨hz,hI,⟨a,b',c',hO⟩,t1,t2,t3⟩:=st;have hh:X.A.in1.handled=none:=I.ok.hd hc;obtain⟨fp1,P1,S1,D1,u1,r1,a1,_,g1⟩:=Ma (A:=X.A.in1) hh I hx t1 (hf i1 (by simp)).1;obtain⟨fp2,P2,S2,D2,u2,r2,a2,_,g2⟩:=Ma (A:=X.A.in1) hh I hy t2 (hf i2 (by simp)).1;obtain⟨fp3,P3,S3,D3,u3,r3,a3,_,g3⟩:=Ma (A:=X.A.in1) hh I hu t3 (hf i3 (by simp)).1;have ZA:=rL I Z hf g1 g2 g3;refine tS D1 D2 D3 ZA (Gx.mp ex).1 (Gx.mp ey).1 (Gx.mp eu).1 hz hI hO u1 u2 u3 λvx vy vu h' tk T px py pu hT hz' hO' w1 w2 w3 hTp kp=>?_;obtain⟨x',ex',rx⟩:=r1 i vx px;obtain⟨y',ey',ry⟩:=r2 i vy py;obtain⟨u',eu',ru⟩:=r3 i vu pu;rw[ex]at ex';cases ex';rw[ey]at ey';cases ey';rw[eu]at eu';cases eu';have nT:H T=none:=by rw[hT];exact I.hok.fresh<|GO _
  refine⟨_,rfl,LH hz' λh2 hz2 sb=>?_⟩;have lt:∀{c o},s.heap.get? c=some o->c≠T:=λe=>by rw[hT];exact GV<|GF e
  have up:∀c o,c≠z->h'.get? c=some o->h2.get? c=some o:=λc o hc e=>(sb.2 c hc).trans e;have kp2:∀b o,b∉[z,TO,i1,i2,i3]->s.heap.get? b=some o->h2.get? b=some o:=λb o hb e=>by
   simp only[GK,HD,or_false,not_or]at hb;exact up b o hb.1<|kp b o hb.1 hb.2.1 hb.2.2.1 hb.2.2.2.1 hb.2.2.2.2 e
  have ch:∀b∈[z,TO,i1,i2,i3],b∈[z,TI,TO,i1,i2,i3]:=λb hb=>by
   simp only[GK,HD,or_false]at hb ⊢;rcases hb with h|h|h|h|h<;>simp[h]
  have ik:∀b u,H b=some u->b∉[z,TO,i1,i2,i3]/\b≠T:=λb u e=>⟨λhb=>(by rw[(hf b<|ch b hb).1]at e;cases e),λq=>(by rw[q,nT]at e;cases e)⟩
  have I2:Inv X Z_ Y (cN H T<|.tup [x,y,u]) {s with heap:=h2,gens:=s.gens,drawn:=s.drawn,toks:=tk}:=by
   refine I.step (g':=s.gens) (d':=s.drawn) (t':=tk) (ch:=[z,TO,i1,i2,i3]) (λb hb=>⟨(hf b<|ch b hb).2.2.2.1,(hf b<|ch b hb).2.1,(hf b<|ch b hb).2.2.2.2.1,(hf b<|ch b hb).2.2.2.2.2⟩) (λb o _ _ hb e _=>kp2 b o hb e) (λb o _ _ hb e _=>⟨o.slots,kp2 b o hb e⟩)
    (λb o hb e n=>by rw[ar<|lt e];exact n) (λb o hb e=>⟨o,kp2 b o hb e⟩) (λb xs e=>by rw[ar (ik b _ e).2];exact e) (λb o u e=>by rw[ar (ik b _ e).2];exact e) (λb ps e=>⟨#[],by rw[ar (ik b _ e).2,e];simp⟩) (λm hm=>?_) (λb u e=>?_) I.bare
   ·obtain⟨o,es,ep,ho,r⟩:=hm;exact⟨o,es,ep,kp2 _ o (λhb=>(hf _<|ch _ hb).2.1 rfl) ho,r⟩
   ·by_cases hb:b=T
    ·subst hb;rw[ao]at e;cases e;refine⟨(by show 3<=sizeLine;rw[HR];decide),[vx,vy,vu],.cons rx<|.cons ry<|.cons ru .nil,⟨_,up _ _ ?_ hTp,⟨rfl,rfl⟩,_,rfl⟩⟩;exact λq=>lt hz q.symm
    ·rw[ar hb]at e;refine(I.hok b u e).stay (λc v hc q=>kp2 c v ?_ q) (λc q=>by rw[ar (ik c _ q).2];exact q) λc xs q=>by rw[ar (ik c _ q).2];exact q
     rcases hc with q|q;·rw[q];exact(ik b u e).1
     ·exact(ik c _ q).1
  refine⟨.ref T,_,I2,rfl,⟨T,x,y,u,nT,rfl,λxs' h=>by rw[Qg I h hx];exact ex,λys' h=>by rw[Qg I h hy];exact ey,λus' h=>by rw[Qg I h hu];exact eu,rfl⟩,⟨hz2,up _ _ Z.c1<|kp _ _ Z.c1 Z.c5 Z.c6 Z.c7 Z.c7' hI,⟨_,_,_,up _ _ Z.c2 hO'⟩,Ld (a1 _ _ w1) λo e=>up _ o Z.c3 e,Ld (a2 _ _ w2) λo e=>up _ o Z.c4 e,Ld (a3 _ _ w3) λo e=>up _ o Z.c4' e⟩,λb hb=>?_⟩;have hbT:b≠T:=by
   obtain⟨o,e⟩:∃o,s.heap.get? b=some o:=by
    obtain⟨o1,e1,_⟩:=LD t1;obtain⟨o2,e2,_⟩:=LD t2;obtain⟨o3,e3,_⟩:=LD t3;simp only[GK,HD,or_false]at hb;rcases hb with rfl|rfl|rfl|rfl|rfl|rfl;·exact⟨_,hz⟩
    ·exact⟨_,hI⟩
    ·exact⟨_,hO⟩
    ·exact⟨_,e1⟩
    ·exact⟨_,e2⟩
    ·exact⟨_,e3⟩
   exact lt e
  rw[ar hbT];exact(hf b hb).1
 done:=by
  intro X hP hw hK hc i Z_ s Y H E I hf st hg;subst hP hw hK;obtain⟨xs,ys,us,hx,hy,hu,hend⟩:=hg;obtain⟨hz,hI,⟨a,b',c',hO⟩,t1,t2,t3⟩:=st;have hh:X.A.in1.handled=none:=I.ok.hd hc;obtain⟨fp1,P1,S1,D1,u1,r1,a1,_,g1⟩:=Ma (A:=X.A.in1) hh I hx t1 (hf i1 (by simp)).1;obtain⟨fp2,P2,S2,D2,u2,r2,a2,_,g2⟩:=Ma (A:=X.A.in1) hh I hy t2 (hf i2 (by simp)).1;obtain⟨fp3,P3,S3,D3,u3,r3,a3,_,g3⟩:=Ma (A:=X.A.in1) hh I hu t3 (hf i3 (by simp)).1;have ZA:=rL I Z hf g1 g2 g3;have ch:∀b∈[z,TO,i1,i2,i3],b∈[z,TI,TO,i1,i2,i3]:=λb hb=>by
   simp only[GK,HD,or_false]at hb ⊢;rcases hb with h|h|h|h|h<;>simp[h]
  refine vR hh D1 D2 D3 ZA hend hz hI hO u1 u2 u3 λh2 tk kp=>⟨rfl,?_⟩
  have kp2:∀b o,b∉[z,TO,i1,i2,i3]->s.heap.get? b=some o->h2.get? b=some o:=λb o hb e=>by
   simp only[GK,HD,or_false,not_or]at hb;exact kp b o hb.1 hb.2.1 hb.2.2.1 hb.2.2.2.1 hb.2.2.2.2 e
  refine I.step (g':=s.gens) (d':=s.drawn) (t':=tk) (ch:=[z,TO,i1,i2,i3]) (λb hb=>⟨(hf b<|ch b hb).2.2.2.1,(hf b<|ch b hb).2.1,(hf b<|ch b hb).2.2.2.2.1,(hf b<|ch b hb).2.2.2.2.2⟩) (λb o _ _ hb e _=>kp2 b o hb e) (λb o _ _ hb e _=>⟨o.slots,kp2 b o hb e⟩)
   (λb o hb e n=>n) (λb o hb e=>⟨o,kp2 b o hb e⟩) (λb xs e=>e) (λb o u e=>e) (λb ps e=>⟨#[],by rw[e];simp⟩) (λm hm=>?_) (λb u e=>?_) I.bare
  ·obtain⟨o,es,ep,ho,r⟩:=hm;exact⟨o,es,ep,kp2 _ o (λhb=>(hf _<|ch _ hb).2.1 rfl) ho,r⟩
  ·have ik:∀b u,H b=some u->b∉[z,TO,i1,i2,i3]:=λb u e hb=>by rw[(hf b<|ch b hb).1]at e;cases e
   refine(I.hok b u e).stay (λc v hc q=>kp2 c v ?_ q) (λc q=>q) λc xs q=>q;rcases hc with q|q
   ·rw[q];exact ik b u e
   ·exact ik c _ q
 self:=λ_ _ _ _ _ st h=>KS st.1 h
theorem Cc{x y z:V}{us:List Gv}(r:Vals [x,y,z] us):∃u v w',us=[u,v,w']/\RelV x u/\RelV y v/\RelV z w':=by
 cases r with
 |cons h1 r=>cases r with
  |cons h2 r=>cases r with
   |cons h3 r=>cases r;exact⟨_,_,_,rfl,h1,h2,h3⟩
def A7(K:Gp)(t:TA):TI:=λY H R=>t Y H λvs H1=>∃c1 c2 c3 xs ys us,vs=[c1.val,c2.val,c3.val]/\c1.has K H1 xs/\c2.has K H1 ys/\c3.has K H1 us/\R (Cb K c1 c2 c3) H1
theorem rM{X:Cx}{K:Gp}(hK:X.K=K){a b c:Expr}{ta:TA}{p pos tp:Pos}{Z5:List Expr}{kk:Nat}(hg:Gl X "zip")(hm:X.mg "zip"=none)(ha:PA X [a,b,c] ta)
  (hs:starEach [a,b,c] X.env=[(false,eval a X.env),(false,eval b X.env),(false,eval c X.env)]:=by rfl) (hs2:starEach [b,c] X.env=[(false,eval b X.env),(false,eval c X.env)]:=by rfl):PI X (.Tuple Z5 kk tp) (.Call (.Name "zip" p) [a,b,c] [] pos) (A7 K ta):=by
 subst hK;intro Z_ s Y H R I h;refine Call_ (jE I hg hm boot_zip (Jh (cG (ha pos Z_ s Y H _ I h) λus s1⟨vs,H1,I1,r1,q1⟩=>?_) (by rw[hs,hs2]) (by rw[hs2];rfl)));obtain⟨c1,c2,c3,xs,ys,zs,e,h1,h2,h3,q⟩:=q1;subst e;obtain⟨v1,v2,v3,rfl,ra,rb,rc⟩:=Cc r1;obtain⟨o1,i1,f1,n1⟩:=PN I1 h1 ra λ_ _ e=>e;obtain⟨o2,i2,f2,n2⟩:=PN (h:=s1.heap.push o1) I1 h2 rb λ_ _ e=>Gu _ e;obtain⟨o3,i3,f3,n3⟩:=PN (h:=(s1.heap.push o1).push o2) I1 h3 rc λ_ _ e=>Gu _<|Gu _ e;have z1:(s1.heap.push o1).objs.size=s1.heap.objs.size+1:=Hz ..;have z2:((s1.heap.push o1).push o2).objs.size=s1.heap.objs.size+2:=by rw[Hz,z1]
 rw[z1]at n2;rw[z2]at n3;refine tR i1 i2 i3 f1 f2 f3 λh' hz hI hO e1 e2 e3 kp=>?_;refine KS hz ?_;have zi:∀n:Nat,ZIds3 (n+5) (n+3) (n+4) n (n+1) (n+2):=λn=>⟨(kH n 3 5 ⋯),(kH n 4 5 ⋯),(kH n 0 5 ⋯),(kH n 1 5 ⋯),(kH n 2 5 ⋯),(kH n 3 4 ⋯),(kH n 3 0 ⋯),(kH n 3 1 ⋯),(kH n 3 2 ⋯),(kH n 4 0 ⋯),(kH n 4 1 ⋯),(kH n 4 2 ⋯),(kH n 0 1 ⋯),(kH n 0 2 ⋯),(kH n 1 2 ⋯)⟩
 refine⟨s1.heap.objs.size+5,[s1.heap.objs.size+5,s1.heap.objs.size+3,s1.heap.objs.size+4,s1.heap.objs.size,s1.heap.objs.size+1,s1.heap.objs.size+2],_,_,H1,rfl,I1.kept (t':=s1.toks) kp,tT c1 c2 c3 _ _ _ _ _ _<|zi s1.heap.objs.size,⟨hz,hI,⟨_,_,_,hO⟩,n1 h' e1,n2 h' e2,n3 h' e3⟩,λb hb=>?_,q⟩;have hb':s1.heap.objs.size<=b:=by
  simp only[GK,HD,or_false]at hb;rcases hb with z|z|z|z|z|z<;>rw[z]
  ·exact IP _ 5
  ·exact IP _ 3
  ·exact IP _ 4
  ·exact GO _
  ·exact IP _ 1
  ·exact IP _ 2
 exact I1.fpOk hb'<|I1.hok.fresh hb'
end L2
namespace Mi
inductive Res(O:Type) where
 |ok (a:O)|err (j:Nat)|stuck
namespace Res
variable{O B:Type}
def Ok(m:Res O)(P:O->Prop):Prop:=match m with| .ok a=>P a|_=>False
def bind(m:Res O)(f:O->Res B):Res B:=match m with| .ok a=>f a| .err j=>.err j| .stuck=>.stuck
theorem bind_ok{m:Res O}{f:O->Res B}{P:B->Prop}(h:m.Ok λa=>(f a).Ok P):(m.bind f).Ok P:=by cases m<;>exact h
theorem Ok.imp{m:Res O}{P Q:O->Prop}(h:m.Ok P)(k:∀a,P a->Q a):m.Ok Q:=by cases m<;>first|exact k _ h|exact h
theorem Ok.ex{m:Res O}{P:O->Prop}(h:m.Ok P):∃a,m=.ok a/\P a:=by
 cases m with
 |ok a=>exact⟨a,rfl,h⟩
 |err j=>exact h.elim
 |stuck=>exact h.elim
def OkE(m:Res O)(Er:Nat->Prop)(P:O->Prop):Prop:=match m with| .ok a=>P a| .err j=>Er j| .stuck=>False
theorem okE_bind{m:Res O}{f:O->Res B}{Er:Nat->Prop}{P:B->Prop}(h:(m.bind f).OkE Er P):m.OkE Er λa=>(f a).OkE Er P:=by cases m<;>exact h
theorem bind_okE{m:Res O}{f:O->Res B}{Er:Nat->Prop}{P:B->Prop}(h:m.OkE Er λa=>(f a).OkE Er P):(m.bind f).OkE Er P:=by cases m<;>exact h
theorem OkE.imp{m:Res O}{Er:Nat->Prop}{P Q:O->Prop}(h:m.OkE Er P)(k:∀a,P a->Q a):m.OkE Er Q:=by cases m<;>first|exact k _ h|exact h
theorem Ok.e{m:Res O}{Er:Nat->Prop}{P:O->Prop}(h:m.Ok P):m.OkE Er P:=by
 cases m with
 |ok a=>exact h
 |err j=>exact h.elim
 |stuck=>exact h.elim
def tryR(m:Res O):Res (O ⊕ Nat):=match m with| .ok a=>.ok (.inl a)| .err j=>.ok (.inr j)| .stuck=>.stuck
theorem tryR_OkE{m:Res O}{Er:Nat->Prop}{P:O ⊕ Nat->Prop}(h:(tryR m).OkE Er P):m.OkE (λj=>P<|.inr j) λa=>P (.inl a):=by cases m<;>exact h
@[simp] theorem bind_ok'(a:O)(f:O->Res B):(Res.ok a).bind f=f a:=rfl
end Res
abbrev cap:Nat:=100000
def f6(b:Prop)[Decidable b]{O:Type}(a:O):Res O:=if b then .ok a else .stuck
theorem aQ{b:Prop}[Decidable b]{O:Type}{a:O}(h:b):f6 b a=.ok a:=Z1 h
theorem aP{b:Prop}[Decidable b]{O:Type}{a:O}{Er:Nat->Prop}{P:O->Prop}(h:(f6 b a).OkE Er P):b/\P a:=by
 unfold f6 at h;by_cases hb:b;·rw[Z1 hb]at h;exact⟨hb,h⟩
 ·rw[Z2 hb]at h;exact h.elim
def fR{O:Type}:Option O->Res O
 |some a=>.ok a
 |none=>.stuck
theorem dJ{O:Type}{o:Option O}{Er:Nat->Prop}{P:O->Prop}(h:(fR o).OkE Er P):∃a,o=some a/\P a:=by
 cases o with
 |none=>exact h.elim
 |some a=>exact⟨a,rfl,h⟩
abbrev Tx:=List Nat
def en(i:Int):Int:=if i<0 then -i else i
def pj(i j:Int):Res Int:=f6 ((-(2^64)<i/\i<2^64)\/(-(2^64)<j/\j<2^64))<|i*j
def rN(i j:Int):Res Int:=f6 (0<j/\j<1073741824)<|i/j
def mj(i j:Int):Res Int:=f6 (0<j)<|i%j
def ixN(n:Nat)(i:Int):Option Nat:=if 0<=i then(if i<n then some i.toNat else none)else if -(n:Int)<=i then some (i+n).toNat else none
def tU{O:Type}(xs:List O)(i:Int):Option O:=(ixN xs.length i).bind λj=>xs[j]?
theorem yK{O:Type}{xs:List O}{j:Nat}{v:O}(h:xs[j]? =some v):tU xs (j:Int)=some v:=by
 have hl:j<xs.length:=(Gx.mp h).1;unfold tU ixN;rw[Z1 (by omega),Z1 (by omega),IF];exact h
theorem vS{O:Type}{xs:List O}{i:Int}(h0:0<=i)(h1:i<xs.length):∃h:i.toNat<xs.length,tU xs i=some xs[i.toNat]:=by
 have h2:i.toNat<xs.length:=by omega
 refine⟨h2,?_⟩;have:=yK (xs:=xs) (j:=i.toNat) (v:=xs[i.toNat]) (by simp[h2]);rw[Int.toNat_of_nonneg h0]at this;exact this
def gS{O:Type}(xs:List O)(i:Int):Res O:=fR<|tU xs i
def iX(x:Tx)(i:Int):Res Tx:=(f6 (x.length<=cap) x).bind λx=>(fR<|tU x i).bind λc=>.ok [c]
def bS(a b:Tx):Res Tx:=f6 (a.length+b.length<=cap)<|a++b
def AO{O:Type}(a b:List O):Res (List O):=f6 (a.length+b.length<=cap)<|a++b
def eG{O:Type}(a:List O)(x:O):Res (List O):=f6 (a.length<cap)<|a++[x]
def yL(a:Tx)(n:Int):Res Tx:=match a with
 | [c]=>f6 (0<=n/\n<=cap)<|GS n.toNat c
 |_=>.stuck
def tV(x:Tx):Res Int:=f6 (x.length<=cap) (x.length:Int)
def sIx(n d:Nat):Option Int->Nat
 |none=>d
 |some v=>if v<0 then(v+(n:Int)).toNat else min v.toNat n
def cut{O:Type}(l:List O)(lo hi:Option Int):List O:=(l.drop<|sIx l.length 0 lo).take (sIx l.length l.length hi-sIx l.length 0 lo)
def hR(x:Tx)(lo hi:Option Int):Res Tx:=f6 (x.length<=cap)<|cut x lo hi
def mn{O:Type}(xs:List O)(i:Int)(x:O):Res (List O):=(fR<|ixN xs.length i).bind λj=>.ok<|xs.set j x
def vT(x:Tx)(c:Nat):Option Nat:=x.findIdx? (· ==c)
def yM(x y:Tx):Res Int:=match y with
 | [c]=>(fR<|vT x c).bind λj=>.ok (j:Int)
 |_=>.stuck
def vU(xs:List Tx):Res Tx:=f6 (xs.flatten.length<=cap) xs.flatten
def look{κ O:Type}[DecidableEq κ](kvs:List (κ×O))(k:κ):Option O:=(kvs.find? λp=>decide<|p.1=k).map (·.2)
def getD{κ O:Type}[DecidableEq κ](kvs:List (κ×O))(k:κ):Res O:=fR<|look kvs k
def mq{O B:Type}(f:O->Res B):List O->Res (List B)
 | []=>.ok []
 |a::r=>(f a).bind λb=>(mq f r).bind λbs=>.ok (b::bs)
def bB{O B:Type}(xs:List O)(f:O->Res B):Res (List B):=(f6 (xs.length<=cap) xs).bind λxs=>mq f xs
def je{O B:Type}(f:O->Res (Option B)):List O->Res (List B)
 | []=>.ok []
 |a::r=>(f a).bind λb=>(je f r).bind λbs=>.ok (match b with|some b=>b::bs|none=>bs)
def iO{O B:Type}(xs:List O)(f:O->Res (Option B)):Res (List B):=(f6 (xs.length<=cap) xs).bind λxs=>je f xs
def cg{O S:Type}(f:O->S->Res S):List O->S->Res S
 | [],s=>.ok s
 |a::r,s=>(f a s).bind λs=>cg f r s
inductive Fl(γ S:Type) where
 |nx (s:S)|bk (s:S)|rt (r:γ)
def Ce{S γ:Type}(k:S->Res (Fl γ S)):Fl γ S->Res (Fl γ S)
 | .nx s=>k s
 | .bk s=>.ok<|.nx s
 | .rt x=>.ok<|.rt x
def iN{O S γ:Type}(f:O->S->Res (Fl γ S)):List O->S->Res (Fl γ S)
 | [],s=>.ok<|.nx s
 |a::r,s=>(f a s).bind (Ce<|iN f r)
def gc(n:Int):List Int:=(JJ n.toNat).map λ(i:Nat)=>(i:Int)
def hU(n:Int):Res (List Int):=f6 (-(2^62)<=n/\n<2^62)<|gc n
def aW(x:Tx):List Tx:=x.map λc=>[c]
def jM(xs:List Int):List Int:=xs.mergeSort λa b=>decide<|a<=b
theorem pq(xs:List Int):(jM xs).Perm xs:=List.mergeSort_perm _ _
theorem tW(xs:List Int):(jM xs).Pairwise (· <= ·):=by
 have:=List.pairwise_mergeSort (le:=λa b:Int=>decide<|a<=b) (λa b c h1 h2=>by simp at *;omega) (λa b=>by simp;omega) xs;exact this.imp λh=>by simpa using h
theorem mX{xs ys:List Int}(h:ys.Perm xs)(hs:ys.Pairwise (· <= ·)):ys=jM xs:=
 List.Perm.eq_of_pairwise (le:=(· <= ·)) (λa b _ _ h1 h2=>by omega) hs (tW xs) (h.trans (pq xs).symm)
def Cf(x y:Tx):Res Bool:=match x with
 | [c]=>.ok<|y.contains c
 |_=>.stuck
def yN(l:List Int):Res Int:=f6 (0<l.length) (l.foldl (λa b=>if b>a then b else a)<|l.headD 0)
def A8{O:Type}[DecidableEq O](a b:O):Res Bool:=if a=b then .ok true else .stuck
theorem rO{O B:Type}{f:O->Res B}{g:O->B}:∀{xs:List O},(∀x∈xs,f x=.ok (g x))->mq f xs=.ok (xs.map g)
 | [],_=>rfl
 |a::r,h=>by
  unfold mq;rw[h a<|GD ..,Res.bind_ok',rO λx hx=>h x<|GB _ hx];rfl
theorem cA{O B:Type}{f:O->Res B}{g:O->B}{xs:List O}(hl:xs.length<=cap)(h:∀x∈xs,f x=.ok (g x)):bB xs f=.ok (xs.map g):=by
 unfold bB;rw[aQ hl,Res.bind_ok',rO h]
def jf{O:Type}(xs:List O):Res (List Int):=(f6 (xs.length<=cap) xs).bind λxs=>.ok<|gc (xs.length:Int)
theorem lE{O:Type}{xs:List O}(h:xs.length<=cap):jf xs=.ok (gc (xs.length:Int)):=by unfold jf f6;rw[Z1 h];rfl
end Mi
open Mi.Res renaming okE_bind->Gj,bind_ok'->Gk,ok->Gr,tryR->LF,err->MT,stuck->Ph,bind_okE->Pp,bind->PR
open Mi.Res.Ok renaming imp->OD
open Mi.Res.OkE renaming imp->GP
namespace Wb
open PySem L2 Mi
variable{Er:Nat->Prop}
structure Wd where
 G:Hp
 H:Hp
 ok:Same G H
structure Ext(W W':Wd):Prop where
 g:Same W.G W'.G
 h:Same W.H W'.H
 k:∀p,W.H p≠none->W'.G p=W.G p
theorem Ext.refl(W:Wd):Ext W W:=⟨.refl _,.refl _,λ_ _=>rfl⟩
theorem Ext.trans{W W1 W2:Wd}(a:Ext W W1)(b:Ext W1 W2):Ext W W2:=⟨a.g.trans b.g,a.h.trans b.h,λp hp=>by
 obtain⟨o,ho⟩:=K9.mp hp;rw[b.k p (by rw[a.h p o ho];exact λz=>nomatch z),a.k p hp]⟩
theorem Same.upd2{G H:Hp}(h:Same G H)(p:Addr)(o:HO):Same (cN G p o) (cN H p o):=λa u e=>by
 by_cases z:a=p;·subst z;rw[ao]at e ⊢;exact e
 ·rw[ar z]at e ⊢;exact h _ _ e
def Wd.new(W:Wd)(p:Addr)(o:HO):Wd:=⟨cN W.G p o,cN W.H p o,Same.upd2 W.ok p o⟩
theorem Wd.gnone(W:Wd){p:Addr}(h:W.H p=none):W.G p=none:=none_of W.ok h
theorem Ext.new{W:Wd}{p:Addr}(o:HO)(h:W.H p=none):Ext W (W.new p o):=⟨ej<|W.gnone h,ej h,λq hq=>ar λz=>hq<|z▸h⟩
def Wd.mut(W:Wd)(p:Addr)(o:HO)(h:W.G p=none):Wd:=⟨W.G,cN W.H p o,tP W.ok h⟩
theorem Ext.own{W:Wd}{p:Addr}(o:HO)(h:W.H p=none):Ext W (W.mut p o<|W.gnone h):=⟨.refl _,ej h,λ_ _=>rfl⟩
def Wd.frz(W:Wd)(p:Addr)(o:HO)(h:W.H p=some o):Wd:=⟨cN W.G p o,W.H,λa u e=>by
 by_cases z:a=p;·subst z;rw[ao]at e;cases e;exact h
 ·rw[ar z]at e;exact W.ok _ _ e⟩
theorem Ext.mut{W0 W:Wd}{p:Addr}{o:HO}(e:Ext W0 W)(hp:W0.H p=none)(h:W.G p=none):Ext W0 (W.mut p o h):=
 ⟨e.g,λa u z=>by show cN W.H p o a=_;rw[ar<|cW z hp];exact e.h _ _ z,e.k⟩
theorem Ext.frz{W0 W:Wd}{p:Addr}{o:HO}(e:Ext W0 W)(hp:W0.H p=none)(h:W.H p=some o)(hg:W.G p=none):Ext W0 (W.frz p o h):=
 ⟨e.g.trans<|ej hg,e.h,λq hq=>by show cN W.G p o q=_;rw[ar (λz=>hq (by rw[z];exact hp))];exact e.k q hq⟩
abbrev Rw(O:Type):=Wd->O->V->Prop
class MonoW{O:Type}(R:Rw O):Prop where
 mono:∀{W W':Wd}{a:O}{v:V},Ext W W'->R W a v->R W' a v
def sh{O:Type}(R:Rp O):Rw O:=λW a v=>R W.G a v
instance zkeep8{O:Type}{R:Rp O}[Mono R]:MonoW (sh R):=⟨λe h=>Gm (R:=R) e.g h⟩
def pk{O:Type}(R:Rp O):Rw (List O):=λW xs v=>∃p vs,v=.ref p/\W.H p=some (.lst vs)/\LR R W.G xs vs
instance zkeep9{O:Type}{R:Rp O}[Mono R]:MonoW (pk R):=⟨λe⟨p,vs,a,b,c⟩=>⟨p,vs,a,e.h _ _ b,c.same e.g⟩⟩
theorem pk.of{O:Type}{R:Rp O}{W:Wd}{xs:List O}{v:V}(h:isL R W.G xs v):pk R W xs v:=by
 obtain⟨p,vs,a,b,c⟩:=h;exact⟨p,vs,a,W.ok _ _ b,c⟩
structure Ow{O:Type}(R:Rp O)(W:Wd)(p:Addr)(xs:List O):Prop where
 g:W.G p=none
 h:∃vs,W.H p=some (.lst vs)/\LR R W.G xs vs
theorem Ow.mono{O:Type}{R:Rp O}[Mono R]{W W':Wd}{p:Addr}{xs:List O}(o:Ow R W p xs)(e:Ext W W'):Ow R W' p xs:=by
 obtain⟨vs,a,b⟩:=o.h;exact⟨by rw[e.k p (by rw[a];exact λz=>nomatch z)];exact o.g,vs,e.h _ _ a,b.same e.g⟩
theorem Ow.pk{O:Type}{R:Rp O}{W:Wd}{p:Addr}{xs:List O}(o:Ow R W p xs):pk R W xs (.ref p):=by
 obtain⟨vs,a,b⟩:=o.h;exact⟨p,vs,rfl,a,b⟩
theorem Ow.frz{O:Type}{R:Rp O}[Mono R]{W0 W:Wd}{p:Addr}{xs:List O}(o:Ow R W p xs)(e:Ext W0 W)(hp:W0.H p=none):
  ∃W',W'.H=W.H/\Ext W0 W'/\Same W.G W'.G/\isL R W'.G xs (.ref p)/\∀q,q≠p->W'.G q=W.G q:=by
 obtain⟨vs,a,b⟩:=o.h;exact⟨W.frz p _ a,rfl,e.frz hp a o.g,ej o.g,⟨p,vs,rfl,ao,b.same<|ej o.g⟩,λq hq=>ar hq⟩
def EV(Er:Nat->Prop){O:Type}(t:TE)(Y:St)(W:Wd)(R:Rw O)(m:Res O):Prop:=∀W1,Ext W W1->∀Q:VK,m.OkE Er (λa=>∀v W2,Ext W1 W2->R W2 a v->Q v W2.H)->t Y W1.H Q
def EVo(Er:Nat->Prop){O:Type}(t:TE)(Y:St)(W:Wd)(R:Rp O)(m:Res (List O)):Prop:=∀W1,Ext W W1->∀Q:VK,m.OkE Er (λxs=>∀p W2,Ext W1 W2->W1.H p=none->Ow R W2 p xs->Q (.ref p) W2.H)->t Y W1.H Q
def TV(Er:Nat->Prop)(t:TT)(Y:St)(W:Wd)(m:Res Bool):Prop:=∀W1,Ext W W1->∀Q:Bool->Hp->Prop,m.OkE Er (λb=>∀W2,Ext W1 W2->Q b W2.H)->t Y W1.H Q
section
variable{O B γ:Type}{t ta tb:TE}{Y:St}{W W0 W':Wd}{K:Gp}
theorem EV.imp{R R':Rw O}{m:Res O}(h:EV Er t Y W R m)(f:∀W a v,R W a v->R' W a v):EV Er t Y W R' m:=λW1 e1 Q k=>h W1 e1 Q<|k.imp λa ka v W2 e2 r=>ka v W2 e2<|f _ _ _ r
theorem EVo.ev{R:Rp O}[Mono R]{m:Res (List O)}(h:EVo Er t Y W R m):EV Er t Y W (sh<|isL R) m:=λW1 e1 Q k=>h W1 e1 Q (k.imp λxs kx p W2 e2 hp o=>by
 obtain⟨W3,hH,e3,_,r,_⟩:=o.frz e2 hp;rw[<-hH];exact kx (.ref p) W3 e3 r)
theorem EVo.pk{R:Rp O}[Mono R]{m:Res (List O)}(h:EVo Er t Y W R m):EV Er t Y W (pk R) m:=λW1 e1 Q k=>h W1 e1 Q<|k.imp λxs kx p W2 e2 hp o=>kx (.ref p) W2 e2 o.pk
theorem EV.pk{R:Rp O}{m:Res (List O)}(h:EV Er t Y W (sh<|isL R) m):EV Er t Y W (pk R) m:=h.imp λ_ _ _ r=>pk.of r
theorem aY{R:Rw O}[MonoW R]{i:Nat}{v:V}{a:O}(r:R W a v)(h:Y[i]? =some (some v):=by rfl):EV Er (bC i) Y W R (.ok a):=λW1 e1 Q k=>⟨v,h,k v W1 (.refl _)<|MonoW.mono e1 r⟩
theorem nX{R:Rp O}[Mono R]{i:Nat}{p:Addr}{a:List O}(r:Ow R W p a)(h:Y[i]? =some (some<|.ref p):=by rfl):EV Er (bC i) Y W (pk R) (.ok a):=aY r.pk h
def isB:Rp Bool:=λ_ b v=>v=.bl b
instance zkeep10:Mono isB:=⟨λ_ h=>h⟩
def isN:Rp Unit:=λ_ _ v=>v=.non
instance zkeep11:Mono isN:=⟨λ_ h=>h⟩
def isO(R:Rp O):Rp (Option O):=λH o v=>match o with|none=>v=.non|some a=>R H a v/\v≠.non
instance zkeep12{R:Rp O}[Mono R]:Mono (isO R):=⟨λ{H H' m v}e h=>by
 cases m with
 |none=>exact h
 |some a=>exact⟨Gm e h.1,h.2⟩⟩
theorem af{i:Int}:EV Er (tC<|.int i) Y W (sh isI) (.ok i):=λW1 _ Q k=>k _ W1 (.refl _) rfl
theorem aq{x:Str}{l:Tx}(h:x=sOf l):EV Er (tC<|.str x) Y W (sh isS) (.ok l):=λW1 _ Q k=>k _ W1 (.refl _) (by rw[h];rfl)
theorem jg{b:Bool}:EV Er (tC<|.bl b) Y W (sh isB) (.ok b):=λW1 _ Q k=>k _ W1 (.refl _) rfl
theorem AQ:EV Er (tC .non) Y W (sh isN) (.ok ()):=λW1 _ Q k=>k _ W1 (.refl _) rfl
theorem nY{R:Rp O}:EV Er (tC .non) Y W (sh<|isO R) (.ok none):=λW1 _ Q k=>k _ W1 (.refl _) rfl
theorem qL{r:R2}{Ra:Rw O}[MonoW Ra]{Rb:Rw B}{R:Rw γ}{ma:Res O}{mb:Res B}{f:O->B->Res γ}(ha:EV Er ta Y W Ra ma)(hb:EV Er tb Y W Rb mb)
  (h:∀W a b x y Q,Ra W a x->Rb W b y->(f a b).OkE Er (λc=>∀v W2,Ext W W2->R W2 c v->Q v W2.H)->r x y W.H Q):EV Er (dW r ta tb) Y W R (ma.bind λa=>mb.bind λb=>f a b):=λW1 e1 Q k=>by
 refine ha W1 e1 _<|(Gj k).imp λa ka x W2 e2 hx=>?_;refine hb W2 (e1.trans e2) _<|(Gj ka).imp λb kb y W3 e3 hy=>?_;exact h W3 a b x y Q (MonoW.mono e3 hx) hy<|kb.imp λc kc v W4 e4 hv=>kc v W4 ((e2.trans e3).trans e4) hv
theorem Ff{r:V->Hp->VK->Prop}{Ra:Rw O}{R:Rw γ}{ma:Res O}{f:O->Res γ}(ha:EV Er ta Y W Ra ma)
  (h:∀W a x Q,Ra W a x->(f a).OkE Er (λc=>∀v W2,Ext W W2->R W2 c v->Q v W2.H)->r x W.H Q):EV Er (gJ r ta) Y W R (ma.bind f):=λW1 e1 Q k=>by
 refine ha W1 e1 _<|(Gj k).imp λa ka x W2 e2 hx=>?_;exact h W2 a x Q hx<|ka.imp λc kc v W4 e4 hv=>kc v W4 (e2.trans e4) hv
section
variable{ma mb:Res Int}
theorem bG{g:Int->Int->Int}(ha:EV Er ta Y W (sh isI) ma)(hb:EV Er tb Y W (sh isI) mb):EV Er (dW (fU λi j=>.int<|g i j) ta tb) Y W (sh isI) (ma.bind λa=>mb.bind λb=>.ok<|g a b):=
 qL ha hb λW a b x y Q hx hy k=>by cases hx;cases hy;exact⟨a,b,rfl,rfl,k _ W (.refl _) rfl⟩
theorem vV{C:Int->Int->Prop}{g:Int->Int->Int}{f:Int->Int->Res Int}(hf:∀a b P,(f a b).OkE Er P->C a b/\P (g a b))(ha:EV Er ta Y W (sh isI) ma)(hb:EV Er tb Y W (sh isI) mb):
  EV Er (dW (rI C λi j=>.int<|g i j) ta tb) Y W (sh isI) (ma.bind λa=>mb.bind λb=>f a b):=
 qL ha hb λW a b x y Q hx hy k=>by cases hx;cases hy;exact⟨a,b,rfl,rfl,(hf a b _ k).1,(hf a b _ k).2 _ W (.refl _) rfl⟩
theorem qM(ha:EV Er ta Y W (sh isI) ma)(hb:EV Er tb Y W (sh isI) mb):EV Er (dW (rI CMul λi j=>.int<|i*j) ta tb) Y W (sh isI) (ma.bind λa=>mb.bind λb=>pj a b):=vV (λa b P h=>by unfold pj at h;obtain⟨h1,h2⟩:=aP h;exact⟨h1,h2⟩) ha hb
theorem yO(ha:EV Er ta Y W (sh isI) ma)(hb:EV Er tb Y W (sh isI) mb):EV Er (dW (rI BX λi j=>.int<|i/j) ta tb) Y W (sh isI) (ma.bind λa=>mb.bind λb=>rN a b):=vV (λa b P h=>by unfold rN at h;obtain⟨h1,h2⟩:=aP h;exact⟨h1,h2⟩) ha hb
theorem lF(ha:EV Er ta Y W (sh isI) ma)(hb:EV Er tb Y W (sh isI) mb):EV Er (dW (rI (λ_ j=>0<j) λi j=>.int<|i%j) ta tb) Y W (sh isI) (ma.bind λa=>mb.bind λb=>mj a b):=vV (λa b P h=>by unfold mj at h;obtain⟨h1,h2⟩:=aP h;exact⟨h1,h2⟩) ha hb
theorem aE{C:Int->Int->Prop}{g:Int->Int->Int}{n:Int}(hn:∀a,C a n)(ha:EV Er ta Y W (sh isI) ma):EV Er (dW (rI C λi j=>.int<|g i j) ta<|tC<|.int n) Y W (sh isI) (ma.bind λa=>.ok<|g a n):=
 λW1 e1 Q k=>ha W1 e1 _ ((Gj k).imp λa ka x W2 e2 hx=>by cases hx;exact⟨a,n,rfl,rfl,hn a,ka _ W2 e2 rfl⟩)
end
end
section
variable{O B γ δ:Type}{t ta tb tc:TE}{Y:St}{W W0 W':Wd}{K:Gp}
theorem iY{n:Nat}(h:n<=cap):n<=sizeLine:=by rw[HR];unfold cap at h;omega
section
variable{ma mb:Res Int}
theorem jN(ha:EV Er ta Y W (sh isI) ma):EV Er (gJ (rU λi=>.int<|-i) ta) Y W (sh isI) (ma.bind λa=>.ok<|-a):=
 Ff ha λW a x Q hx k=>by cases hx;exact⟨a,rfl,k _ W (.refl _) rfl⟩
theorem eO{g:Int->Int->Bool}(ha:EV Er ta Y W (sh isI) ma)(hb:EV Er tb Y W (sh isI) mb):EV Er (dW (fU λi j=>.bl<|g i j) ta tb) Y W (sh isB) (ma.bind λa=>mb.bind λb=>.ok<|g a b):=
 qL ha hb λW a b x y Q hx hy k=>by cases hx;cases hy;exact⟨a,b,rfl,rfl,k _ W (.refl _) rfl⟩
end
theorem dI{a b:Int}:decide (Kf a=Kf b)=decide (a=b):=by rw[HZ];simp
theorem dS{a b:Tx}:decide (Jp (sOf a)=Jp (sOf b))=decide (a=b):=by
 rw[HZ,decide_eq_true_eq,decide_eq_true_eq];exact⟨λh=>rK<|Jp.inj h,λh=>by rw[h]⟩
theorem dQ{ma mb:Res Int}(ha:EV Er ta Y W (sh isI) ma)(hb:EV Er tb Y W (sh isI) mb):EV Er (dW gK ta tb) Y W (sh isB) (ma.bind λa=>mb.bind λb=>.ok<|decide<|a=b):=
 qL ha hb λW a b x y Q hx hy k=>by cases hx;cases hy;exact⟨rfl,by rw[dI];exact k _ W (.refl _) rfl⟩
theorem fL{ma mb:Res Tx}(ha:EV Er ta Y W (sh isS) ma)(hb:EV Er tb Y W (sh isS) mb):EV Er (dW gK ta tb) Y W (sh isB) (ma.bind λa=>mb.bind λb=>.ok<|decide<|a=b):=
 qL ha hb λW a b x y Q hx hy k=>by cases hx;cases hy;exact⟨rfl,by rw[dS];exact k _ W (.refl _) rfl⟩
theorem AR{ma mb:Res Int}(ha:EV Er ta Y W (sh isI) ma)(hb:EV Er tb Y W (sh isI) mb):EV Er (dW gP ta tb) Y W (sh isB) (ma.bind λa=>mb.bind λb=>.ok<|!decide (a=b)):=
 qL ha hb λW a b x y Q hx hy k=>by cases hx;cases hy;exact⟨rfl,by rw[dI];exact k _ W (.refl _) rfl⟩
theorem yP{R:Rp O}{ma:Res (Option O)}(ha:EV Er ta Y W (sh<|isO R) ma):EV Er (dW (λx y H Q=>y=.non/\Q (.bl<|!decide (x=.non)) H) ta<|tC .non) Y W (sh isB) (ma.bind λa=>.ok a.isSome):=λW1 e1 Q k=>
 ha W1 e1 _ ((Gj k).imp λa ka x W2 e2 hx=>⟨rfl,by
  have e:(!decide (x=V.non))=a.isSome:=by
   cases a with
   |none=>cases hx;rfl
   |some b=>rw[decide_eq_false hx.2];rfl
  rw[e];exact ka _ W2 e2 rfl⟩)
theorem aI{m:Res Bool}(h:EV Er t Y W (sh isB) m):TV Er (bY t) Y W m:=λW1 e1 Q k=>h W1 e1 _<|k.imp λb kb v W2 e2 hv=>⟨b,hv,kb W2 e2⟩
theorem iZ{m:Res Bool}(h:EV Er t Y W (sh isB) m):TV Er (tB t) Y W m:=λW1 e1 Q k=>h W1 e1 _<|k.imp λb kb v W2 e2 hv=>⟨b,hv,kb W2 e2⟩
theorem fb{t:TT}{m:Res Bool}(h:TV Er t Y W m):TV Er (dn t) Y W (m.bind λb=>.ok<|!b):=λW1 e1 Q k=>h W1 e1 _<|(Gj k).imp λb kb W2 e2=>kb W2 e2
theorem qN{t u:TT}{m n:Res Bool}(h:TV Er t Y W m)(g:TV Er u Y W n):TV Er (dC t u) Y W (m.bind λb=>if b then n else .ok false):=λW1 e1 Q k=>h W1 e1 _ ((Gj k).imp λb kb W2 e2=>by
 cases b with
 |true=>exact g W2 (e1.trans e2) _ (kb.imp λc kc W3 e3=>kc W3<|e2.trans e3)
 |false=>exact kb W2 e2)
theorem pw{t u:TT}{m n:Res Bool}(h:TV Er t Y W m)(g:TV Er u Y W n):TV Er (gN t u) Y W (m.bind λb=>if b then .ok true else n):=λW1 e1 Q k=>h W1 e1 _ ((Gj k).imp λb kb W2 e2=>by
 cases b with
 |true=>exact kb W2 e2
 |false=>exact g W2 (e1.trans e2) _ (kb.imp λc kc W3 e3=>kc W3 (e2.trans e3)))
theorem AS{m n:Res Bool}(h:EV Er ta Y W (sh isB) m)(g:EV Er tb Y W (sh isB) n):EV Er (bW ta tb) Y W (sh isB) (m.bind λb=>if b then n else .ok false):=λW1 e1 Q k=>h W1 e1 _ ((Gj k).imp λb kb v W2 e2 hv=>⟨b,hv,by
 cases b with
 |true=>exact g W2 (e1.trans e2) _ (kb.imp λc kc v W3 e3 hv=>kc v W3 (e2.trans e3) hv)
 |false=>exact kb _ W2 e2 rfl⟩)
theorem vW{m:Res Bool}(h:EV Er ta Y W (sh isB) m):EV Er (bX ta) Y W (sh isB) (m.bind λb=>.ok<|!b):=λW1 e1 Q k=>h W1 e1 _<|(Gj k).imp λb kb v W2 e2 hv=>⟨b,hv,kb _ W2 e2 rfl⟩
theorem vX{R:Rw O}{c:TT}{mc:Res Bool}{m n:Res O}(hc:TV Er c Y W mc)(h:EV Er ta Y W R m)(g:EV Er tb Y W R n):EV Er (gO c ta tb) Y W R (mc.bind λb=>if b then m else n):=λW1 e1 Q k=>hc W1 e1 _ ((Gj k).imp λb kb W2 e2=>by
 cases b with
 |true=>exact h W2 (e1.trans e2) _ (kb.imp λc kc v W3 e3 hv=>kc v W3 (e2.trans e3) hv)
 |false=>exact g W2 (e1.trans e2) _ (kb.imp λc kc v W3 e3 hv=>kc v W3 (e2.trans e3) hv))
theorem bA{ma mb:Res Tx}(ha:EV Er ta Y W (sh isS) ma)(hb:EV Er tb Y W (sh isS) mb):EV Er (dW (λx y H Q=>∃i j,x=.str i/\y=.str j/\i.length+j.length<=sizeLine/\Q (.str<|i++j) H) ta tb) Y W (sh isS) (ma.bind λa=>mb.bind λb=>bS a b):=
 qL ha hb λW a b x y Q hx hy k=>by
  cases hx;cases hy;obtain⟨h1,h2⟩:=aP k;exact⟨_,_,rfl,rfl,by rw[cU,cU];exact iY h1,by rw[gE];exact h2 _ W (.refl _) rfl⟩
theorem rP{ma:Res Tx}{mb:Res Int}(ha:EV Er ta Y W (sh isS) ma)(hb:EV Er tb Y W (sh isI) mb):EV Er (dW (λx y H Q=>∃c n,x=.str (sOf [c])/\y=.int n/\0<=n/\n<=100000/\Q (.str<|sOf<|GS n.toNat c) H) ta tb) Y W (sh isS) (ma.bind λa=>mb.bind λb=>yL a b):=
 qL ha hb λW a b x y Q hx hy k=>by
  cases hx;cases hy
  match a,k with
  | [c],k=>
   obtain⟨h1,h2⟩:=aP k;exact⟨c,b,rfl,rfl,h1.1,h1.2,h2 _ W (.refl _) rfl⟩
theorem dh{ma:Res Tx}{mb:Res Int}(ha:EV Er ta Y W (sh isS) ma)(hb:EV Er tb Y W (sh isI) mb):EV Er (dW dE ta tb) Y W (sh isS) (ma.bind λa=>mb.bind λb=>iX a b):=
 qL ha hb λW a b x y Q hx hy k=>by
  cases hx;cases hy;obtain⟨h1,h2⟩:=aP<|Gj k;obtain⟨c,h3,h4⟩:=dJ<|Gj h2;exact⟨_,b,c,rfl,rfl,by rw[cU];exact iY h1,by rw[kL];exact h3,h4 _ W (.refl _) rfl⟩
theorem Cg{R:Rw O}{r:V->Option Int->Option Int->Hp->VK->Prop}{Ra:Rw B}[MonoW Ra]{ma:Res B}{tl th:TO}{ml mh:Res (Option Int)}{f:B->Option Int->Option Int->Res O}(ha:EV Er ta Y W Ra ma)
  (hl:∀W1,Ext W W1->∀Q:Option Int->Hp->Prop,ml.OkE Er (λo=>∀W2,Ext W1 W2->Q o W2.H)->tl Y W1.H Q) (hh:∀W1,Ext W W1->∀Q:Option Int->Hp->Prop,mh.OkE Er (λo=>∀W2,Ext W1 W2->Q o W2.H)->th Y W1.H Q)
  (h:∀W a x lo hi Q,Ra W a x->(f a lo hi).OkE Er (λc=>∀v W2,Ext W W2->R W2 c v->Q v W2.H)->r x lo hi W.H Q):EV Er (gD r ta tl th) Y W R (ma.bind λa=>ml.bind λlo=>mh.bind λhi=>f a lo hi):=λW1 e1 Q k=>
 ha W1 e1 _ ((Gj k).imp λa ka x W2 e2 hx=>hl W2 (e1.trans e2) _ ((Gj ka).imp λlo kl W3 e3=>hh W3 ((e1.trans e2).trans e3) _ ((Gj kl).imp λhi kh W4 e4=>
  h W4 a x lo hi Q (MonoW.mono (e3.trans e4) hx) (kh.imp λc kc v W5 e5 hv=>kc v W5 (((e2.trans e3).trans e4).trans e5) hv))))
theorem fV:∀W1,Ext W W1->∀Q:Option Int->Hp->Prop,(Gr (none:Option Int)).OkE Er (λo=>∀W2,Ext W1 W2->Q o W2.H)->aV Y W1.H Q:=λW1 _ Q k=>k W1<|.refl _
theorem eJ{m:Res Int}(h:EV Er t Y W (sh isI) m):∀W1,Ext W W1->∀Q:Option Int->Hp->Prop,(m.bind λi=>.ok<|some i).OkE Er (λo=>∀W2,Ext W1 W2->Q o W2.H)->bZ t Y W1.H Q:=λW1 e1 Q k=>
 h W1 e1 _ ((Gj k).imp λi ki v W2 e2 hv=>⟨i,hv,ki W2 e2⟩)
theorem dM{ma:Res Tx}{tl th:TO}{ml mh:Res (Option Int)}(ha:EV Er ta Y W (sh isS) ma)
  (hl:∀W1,Ext W W1->∀Q:Option Int->Hp->Prop,ml.OkE Er (λo=>∀W2,Ext W1 W2->Q o W2.H)->tl Y W1.H Q) (hh:∀W1,Ext W W1->∀Q:Option Int->Hp->Prop,mh.OkE Er (λo=>∀W2,Ext W1 W2->Q o W2.H)->th Y W1.H Q):
  EV Er (gD (λx lo hi H Q=>∃l,x=.str (sOf l)/\l.length<=sizeLine/\Q (.str<|sOf<|kG l lo hi) H) ta tl th) Y W (sh isS) (ma.bind λa=>ml.bind λlo=>mh.bind λhi=>hR a lo hi):=
 Cg ha hl hh λW a x lo hi Q hx k=>by
  cases hx;obtain⟨h1,h2⟩:=aP k;exact⟨a,rfl,iY h1,h2 _ W (.refl _) rfl⟩
theorem Ci(x:Tx)(c j:Nat)(h:vT x c=some j):Lz (sOf x) (sOf [c])=(j:Int):=by
 unfold vT at h;rw[List.findIdx?_eq_some_iff_getElem]at h;obtain⟨hj,h1,h2⟩:=h;have hat:∀i,StrLaws.At (sOf x) (sOf [c]) (sOf x).length i↔x[i]? =some c:=λi=>by
  have:=StrLaws.subAt_one (sOf x) c i;rw[kL]at this;exact this
 unfold Lz;rcases StrLaws.occ_head (sOf x) (sOf [c]) 1 (GO _)with⟨_,hn⟩|⟨i,r,e,hi,hk⟩
 ·exact absurd ((hat j).mpr (by rw[Hj hj];simpa using h1))<|hn j
 ·rw[e];have e2:=(hat i).mp hi;obtain⟨hil,e3⟩:=Gx.mp e2;have:i=j:=by
   rcases Nat.lt_trichotomy i j with z|z|z;·exact absurd e3 (by simpa using h2 i z)
   ·exact z
   ·exact absurd ((hat j).mpr (by rw[Hj hj];simpa using h1))<|hk j z
  rw[this]
theorem rQ{ma mb:Res Tx}{K:Gp}(ha:EV Er ta Y W (sh isS) ma)(hb:EV Er tb Y W (sh isS) mb):EV Er (fy K "str" (λx xs H Q=>∃a b,x=.str a/\xs=[.str b]/\0<=Lz a b/\Q (.int<|Lz a b) H) ta<|ah tb aO) Y W (sh isI) (ma.bind λa=>mb.bind λb=>yM a b):=λW1 e1 Q k=>
 ha W1 e1 _ ((Gj k).imp λa ka x W2 e2 hx=>by
  cases hx;refine⟨rfl,hb W2 (e1.trans e2) _<|(Gj ka).imp λb kb y W3 e3 hy=>?_⟩;cases hy
  match b,kb with
  | [c],kb=>
   obtain⟨j,h1,h2⟩:=dJ (Gj kb);have e:=Ci a c j h1;exact⟨_,_,rfl,rfl,by rw[e];omega,by rw[e];exact h2 _ W3 (e2.trans e3) rfl⟩)
theorem AU{ma mb:Res Tx}(ha:EV Er ta Y W (sh isS) ma)(hb:EV Er tb Y W (sh isS) mb):EV Er (dW (λx y H Q=>∃i j,x=.str i/\y=.str j/\Q (.bl<|!(IL j i 0 j.length 1).isEmpty) H) ta tb) Y W (sh isB) (ma.bind λa=>mb.bind λb=>Cf a b):=
 qL ha hb λW a b x y Q hx hy k=>by
  cases hx;cases hy
  match a,k with
  | [c],k=>
   refine⟨_,_,rfl,rfl,?_⟩;have e:(!(IL (sOf b) (sOf [c]) 0 (sOf b).length 1).isEmpty)=b.contains c:=by
    have:=NC (sOf b) c;rw[kL]at this;rw[this,HZ];simp
   rw[e];exact k _ W (.refl _) rfl
theorem tX{ma mb:Res Tx}(ha:EV Er ta Y W (sh isS) ma)(hb:EV Er tb Y W (sh isS) mb):EV Er (dW (λx y H Q=>∃i j,x=.str i/\y=.str j/\Q (.bl<|!(!(IL j i 0 j.length 1).isEmpty)) H) ta tb) Y W (sh isB) (ma.bind λa=>mb.bind λb=>(Cf a b).bind λc=>.ok<|!c):=
 qL ha hb λW a b x y Q hx hy k=>by
  cases hx;cases hy
  match a,k with
  | [c],k=>
   refine⟨_,_,rfl,rfl,?_⟩;have e:(!(IL (sOf b) (sOf [c]) 0 (sOf b).length 1).isEmpty)=b.contains c:=by
    have:=NC (sOf b) c;rw[kL]at this;rw[this,HZ];simp
   rw[e];exact k _ W (.refl _) rfl
theorem Same.tup{H H':Hp}{a:Addr}{xs:List V}(e:Same H H')(h:SqT K H a xs):SqT K H' a xs:=by
 rcases h with(h|⟨o,h⟩)|h;·exact .inl<|.inl<|e _ _ h
 ·exact .inl<|.inr ⟨o,e _ _ h⟩
 ·exact .inr h
def isT2(K:Gp)(R1:Rp O)(R2:Rp B):Rp (O×B):=λH a v=>∃p x y,v=.ref p/\SqT K H p [x,y]/\R1 H a.1 x/\R2 H a.2 y
def isT3(K:Gp)(R1:Rp O)(R2:Rp B)(R3:Rp γ):Rp (O×B×γ):=λH a v=>∃p x y z,v=.ref p/\SqT K H p [x,y,z]/\R1 H a.1 x/\R2 H a.2.1 y/\R3 H a.2.2 z
def isT4(K:Gp)(R1:Rp O)(R2:Rp B)(R3:Rp γ)(R4:Rp δ):Rp (O×B×γ×δ):=λH a v=>∃p x y z u,v=.ref p/\SqT K H p [x,y,z,u]/\R1 H a.1 x/\R2 H a.2.1 y/\R3 H a.2.2.1 z/\R4 H a.2.2.2 u
instance zkeep14{R1:Rp O}{R2:Rp B}[Mono R1][Mono R2]:Mono (isT2 K R1 R2):=⟨λe⟨p,x,y,h0,h,h1,h2⟩=>⟨p,x,y,h0,Same.tup e h,Gm e h1,Gm e h2⟩⟩
instance zkeep15{R1:Rp O}{R2:Rp B}{R3:Rp γ}[Mono R1][Mono R2][Mono R3]:Mono (isT3 K R1 R2 R3):=⟨λe⟨p,x,y,z,h0,h,h1,h2,h3⟩=>⟨p,x,y,z,h0,Same.tup e h,Gm e h1,Gm e h2,Gm e h3⟩⟩
instance zkeep16{R1:Rp O}{R2:Rp B}{R3:Rp γ}{R4:Rp δ}[Mono R1][Mono R2][Mono R3][Mono R4]:Mono (isT4 K R1 R2 R3 R4):=⟨λe⟨p,x,y,z,u,h0,h,h1,h2,h3,h4⟩=>⟨p,x,y,z,u,h0,Same.tup e h,Gm e h1,Gm e h2,Gm e h3,Gm e h4⟩⟩
theorem aZ{R1:Rp O}{R2:Rp B}[Mono R1][Mono R2]{ma:Res O}{mb:Res B}(ha:EV Er ta Y W (sh R1) ma)(hb:EV Er tb Y W (sh R2) mb):EV Er (d9<|ah ta<|ah tb aO) Y W (sh<|isT2 K R1 R2) (ma.bind λa=>mb.bind λb=>.ok (a,b)):=λW1 e1 Q k=>
 ha W1 e1 _ ((Gj k).imp λa ka x W2 e2 hx=>hb W2 (e1.trans e2) _ ((Gj ka).imp λb kb y W3 e3 hy=>⟨(by show 2<=sizeLine;decide),λp hp=>
  kb (.ref p) (W3.new p (.tup [x,y])) ((e2.trans e3).trans (.new _ hp)) ⟨p,x,y,rfl,NT ao,Gm (Ext.new _ hp).g (Gm (R:=R1) e3.g hx),Gm (R:=R2) (Ext.new _ hp).g hy⟩⟩))
theorem fB{R1:Rp O}{R2:Rp B}{R3:Rp γ}[Mono R1][Mono R2][Mono R3]{ma:Res O}{mb:Res B}{mc:Res γ}(ha:EV Er ta Y W (sh R1) ma)(hb:EV Er tb Y W (sh R2) mb)(hc:EV Er tc Y W (sh R3) mc):
  EV Er (d9<|ah ta<|ah tb<|ah tc aO) Y W (sh<|isT3 K R1 R2 R3) (ma.bind λa=>mb.bind λb=>mc.bind λc=>.ok (a,b,c)):=λW1 e1 Q k=>
 ha W1 e1 _ ((Gj k).imp λa ka x W2 e2 hx=>hb W2 (e1.trans e2) _ ((Gj ka).imp λb kb y W3 e3 hy=>hc W3 ((e1.trans e2).trans e3) _ ((Gj kb).imp λc kc z W4 e4 hz=>⟨(by show 3<=sizeLine;decide),λp hp=>
  kc (.ref p) (W4.new p (.tup [x,y,z])) (((e2.trans e3).trans e4).trans (.new _ hp)) ⟨p,x,y,z,rfl,NT ao,Gm (Ext.new _ hp).g (Gm (R:=R1) (e3.trans e4).g hx),Gm (R:=R2) (Ext.new _ hp).g (Gm (R:=R2) e4.g hy),Gm (R:=R3) (Ext.new _ hp).g hz⟩⟩)))
theorem bt{R:Rp O}{Rt:Rp B}{m:Res B}{i:Int}{f:B->O}(h:∀H b v,Rt H b v->∃p xs x,v=.ref p/\SqT K H p xs/\L2.atI xs i=some x/\R H (f b) x)(ha:EV Er ta Y W (sh Rt) m):EV Er (dW (dt K) ta<|tC<|.int i) Y W (sh R) (m.bind λb=>.ok<|f b):=λW1 e1 Q k=>
 ha W1 e1 _ ((Gj k).imp λb kb v W2 e2 hv=>by
  obtain⟨p,xs,x,h1,h2,h3,h4⟩:=h _ _ _ hv;exact⟨p,xs,i,x,h1,rfl,Same.tup W2.ok h2,h3,kb _ W2 e2 h4⟩)
theorem AW{R1:Rp O}{R2:Rp B}:∀H b v,isT2 K R1 R2 H b v->∃p xs x,v=.ref p/\SqT K H p xs/\L2.atI xs 0=some x/\R1 H b.1 x:=λ_ _ _⟨p,x,y,h0,h,h1,h2⟩=>⟨p,_,x,h0,h,rfl,h1⟩
theorem tY{R1:Rp O}{R2:Rp B}:∀H b v,isT2 K R1 R2 H b v->∃p xs x,v=.ref p/\SqT K H p xs/\L2.atI xs 1=some x/\R2 H b.2 x:=λ_ _ _⟨p,x,y,h0,h,h1,h2⟩=>⟨p,_,y,h0,h,rfl,h2⟩
theorem vY{R1:Rp O}{R2:Rp B}{R3:Rp γ}:∀H b v,isT3 K R1 R2 R3 H b v->∃p xs x,v=.ref p/\SqT K H p xs/\L2.atI xs 0=some x/\R1 H b.1 x:=λ_ _ _⟨p,x,y,z,h0,h,h1,h2,h3⟩=>⟨p,_,x,h0,h,rfl,h1⟩
theorem pz{R1:Rp O}{R2:Rp B}{R3:Rp γ}:∀H b v,isT3 K R1 R2 R3 H b v->∃p xs x,v=.ref p/\SqT K H p xs/\L2.atI xs 1=some x/\R2 H b.2.1 x:=λ_ _ _⟨p,x,y,z,h0,h,h1,h2,h3⟩=>⟨p,_,y,h0,h,rfl,h2⟩
theorem vZ{R1:Rp O}{R2:Rp B}{R3:Rp γ}:∀H b v,isT3 K R1 R2 R3 H b v->∃p xs x,v=.ref p/\SqT K H p xs/\L2.atI xs 2=some x/\R3 H b.2.2 x:=λ_ _ _⟨p,x,y,z,h0,h,h1,h2,h3⟩=>⟨p,_,z,h0,h,rfl,h3⟩
theorem nZ{R:Rp O}{H:Hp}{as:List O}{xs:List V}(h:LR R H as xs){i:Int}{a:O}(e:tU as i=some a):∃x,L2.atI xs i=some x/\R H a x:=by
 unfold tU at e;unfold L2.atI;rw[h.1];cases z:Mi.ixN as.length i with
 |none=>rw[z]at e;cases e
 |some j=>
  rw[z]at e;obtain⟨x,h1,h2⟩:=h.get (i:=j) e;exact⟨x,by show(L2.ixN as.length i).bind _=_;rw[show L2.ixN as.length i=Mi.ixN as.length i from rfl,z];exact h1,h2⟩
theorem fc{R:Rp O}[Mono R]{ma:Res (List O)}{mb:Res Int}(ha:EV Er ta Y W (pk R) ma)(hb:EV Er tb Y W (sh isI) mb):EV Er (dW (cT K) ta tb) Y W (sh R) (ma.bind λa=>mb.bind λb=>gS a b):=
 qL ha hb λW a b x y Q hx hy k=>by
  cases hy;obtain⟨p,vs,rfl,h,h1⟩:=hx;obtain⟨c,h4,h5⟩:=dJ k;obtain⟨z,h6,h7⟩:=nZ h1 h4;exact⟨p,_,b,z,rfl,rfl,Ic h,h6,h5 _ W (.refl _) h7⟩
theorem o4{R:Rp O}:EVo Er (df aO) Y W R (.ok []):=λW1 e1 Q k=>⟨by decide,λp hp=>k p (W1.mut p (.lst [])<|W1.gnone hp) (.own _ hp) hp ⟨W1.gnone hp,[],ao,.nil⟩⟩
def AV(Er:Nat->Prop)(t:TA)(Y:St)(W:Wd)(R:Rp O)(n:Nat)(m:Res (List O)):Prop:=∀W1,Ext W W1->∀Q:List V->Hp->Prop,m.OkE Er (λas=>∀vs W2,Ext W1 W2->vs.length=n->LR R W2.G as vs->Q vs W2.H)->t Y W1.H Q
theorem cY{R:Rp O}:AV Er aO Y W R 0 (.ok []):=λW1 _ Q k=>k [] W1 (.refl _) rfl .nil
theorem LR.cons{R:Rp O}{H:Hp}{a:O}{v:V}{as:List O}{vs:List V}(h:R H a v)(r:LR R H as vs):LR R H (a::as) (v::vs):=⟨by simp[r.1],λi x m e1 e2=>by
 cases i with
 |zero=>cases e1;cases e2;exact h
 |succ j=>exact r.2 j x m e1 e2⟩
theorem bf{R:Rp O}[Mono R]{n:Nat}{ts:TA}{m:Res O}{ms:Res (List O)}(h:EV Er t Y W (sh R) m)(g:AV Er ts Y W R n ms):AV Er (ah t ts) Y W R (n+1) (m.bind λa=>ms.bind λas=>.ok (a::as)):=λW1 e1 Q k=>
 h W1 e1 _ ((Gj k).imp λa ka v W2 e2 hv=>g W2 (e1.trans e2) _ ((Gj ka).imp λas kas vs W3 e3 hn hvs=>kas (v::vs) W3 (e2.trans e3) (by simp[hn])<|.cons (Gm (R:=R) e3.g hv) hvs))
theorem cZ{R:Rp O}[Mono R]{n:Nat}{ts:TA}{ms:Res (List O)}(g:AV Er ts Y W R n ms)(hn:n<=cap:=by decide):EVo Er (df ts) Y W R ms:=λW1 e1 Q k=>
 g W1 e1 _ (k.imp λas ka vs W2 e2 hv hvs=>⟨by rw[hv];exact iY hn,λp hp=>ka p (W2.mut p (.lst vs)<|W2.gnone hp) (e2.trans<|.own _ hp) (none_of e2.h hp) ⟨W2.gnone hp,vs,ao,hvs⟩⟩)
theorem fW{R:Rp O}[Mono R]{ma mb:Res (List O)}(ha:EV Er ta Y W (pk R) ma)(hb:EV Er tb Y W (pk R) mb):EVo Er (dW dF ta tb) Y W R (ma.bind λa=>mb.bind λb=>AO a b):=λW1 e1 Q k=>
 ha W1 e1 _ ((Gj k).imp λa ka x W2 e2 hx=>hb W2 (e1.trans e2) _ ((Gj ka).imp λb kb y W3 e3 hy=>by
  obtain⟨p,vs,rfl,h1,h2⟩:=MonoW.mono e3 hx;obtain⟨q,us,rfl,h3,h4⟩:=hy;obtain⟨h5,h6⟩:=aP kb;refine⟨p,q,vs,us,rfl,rfl,h1,h3,by rw[h2.1,h4.1];exact iY h5,λr hr=>h6 r (W3.mut r (.lst<|vs++us)<|W3.gnone hr) ((e2.trans e3).trans (.own _ hr)) (none_of (e2.trans e3).h hr) ⟨W3.gnone hr,_,ao,?_⟩⟩;exact⟨by rw[GI,GI,h2.1,h4.1],λi v m q1 q2=>by
   by_cases hi:i<vs.length
   ·rw[Hu hi]at q1;rw[Hu (by rw[<-h2.1];exact hi)]at q2;exact h2.2 i v m q1 q2
   ·rw[Hm (by omega)]at q1;rw[Hm (by rw[<-h2.1];omega)]at q2;rw[<-h2.1]at q2;exact h4.2 _ v m q1 q2⟩))
theorem LR.cut{R:Rp O}{H:Hp}{as:List O}{vs:List V}(h:LR R H as vs)(lo hi:Option Int):LR R H (Mi.cut as lo hi) (qC vs lo hi):=by
 unfold Mi.cut qC;rw[h.1];exact(h.drop _).take _
theorem o6{R:Rp O}[Mono R]{ma:Res (List O)}{tl th:TO}{ml mh:Res (Option Int)}(ha:EV Er ta Y W (pk R) ma)
  (hl:∀W1,Ext W W1->∀Q:Option Int->Hp->Prop,ml.OkE Er (λo=>∀W2,Ext W1 W2->Q o W2.H)->tl Y W1.H Q) (hh:∀W1,Ext W W1->∀Q:Option Int->Hp->Prop,mh.OkE Er (λo=>∀W2,Ext W1 W2->Q o W2.H)->th Y W1.H Q):
  EVo Er (gD (dw K) ta tl th) Y W R (ma.bind λa=>ml.bind λlo=>mh.bind λhi=>.ok<|Mi.cut a lo hi):=λW1 e1 Q k=>
 ha W1 e1 _ ((Gj k).imp λa ka x W2 e2 hx=>hl W2 (e1.trans e2) _ ((Gj ka).imp λlo kl W3 e3=>hh W3 ((e1.trans e2).trans e3) _ ((Gj kl).imp λhi kh W4 e4=>by
  obtain⟨p,vs,rfl,h1,h2⟩:=MonoW.mono (e3.trans e4) hx;have e5:=(e2.trans e3).trans e4;exact⟨p,vs,rfl,Ic h1,λr hr=>kh r (W4.mut r (.lst (qC vs lo hi)) (W4.gnone hr)) (e5.trans (.own _ hr)) (none_of e5.h hr) ⟨W4.gnone hr,_,ao,h2.cut lo hi⟩⟩)))
theorem lG{ma:Res Int}(ha:EV Er ta Y W (sh isI) ma):EV Er (f9 (λxs H Q=>∃i,xs=[.int i]/\Q (.int (if i<0 then -i else i)) H)<|ah ta aO) Y W (sh isI) (ma.bind λa=>.ok<|en a):=λW1 e1 Q k=>
 ha W1 e1 _ ((Gj k).imp λa ka x W2 e2 hx=>by cases hx;exact⟨a,rfl,ka _ W2 e2 rfl⟩)
theorem ff{R:Rp O}{ma:Res (List O)}(ha:EV Er ta Y W (pk R) ma):EV Er (f9 (λxs H Q=>∃x n,xs=[x]/\oS K x H n/\Q (.int n) H)<|ah ta aO) Y W (sh isI) (ma.bind λa=>.ok (a.length:Int)):=λW1 e1 Q k=>
 ha W1 e1 _ ((Gj k).imp λa ka x W2 e2 hx=>by
  obtain⟨p,vs,rfl,h1,h2⟩:=hx;exact⟨_,a.length,rfl,.inl ⟨vs,Ic h1,h2.1.symm⟩,ka _ W2 e2 rfl⟩)
theorem o9{ma:Res Tx}(ha:EV Er ta Y W (sh isS) ma):EV Er (f9 (λxs H Q=>∃x n,xs=[x]/\oS K x H n/\Q (.int n) H)<|ah ta aO) Y W (sh isI) (ma.bind λa=>tV a):=λW1 e1 Q k=>
 ha W1 e1 _ ((Gj k).imp λa ka x W2 e2 hx=>by
  cases hx;obtain⟨h1,h2⟩:=aP ka;exact⟨_,a.length,rfl,⟨by rw[cU];exact iY h1,by rw[cU]⟩,h2 _ W2 e2 rfl⟩)
theorem yQ{ma:Res (List Tx)}{x:Str}(hx:x=sOf [])(ha:EV Er ta Y W (pk isS) ma):EV Er (fy K "str" (λx xs H Q=>∃(p:Addr)(ys:List (List Nat)),x=.str (sOf [])/\xs=[.ref p]/\SqL K H p (ys.map λy=>Jp<|sOf y)/\ys.flatten.length<=100000/\Q (.str<|sOf ys.flatten) H) (tC<|.str x)<|ah ta aO) Y W (sh isS) (ma.bind λa=>vU a):=λW1 e1 Q k=>
 ⟨by show BZ K "str" (.str x) W1.H;rfl,ha W1 e1 _ ((Gj k).imp λa ka v W2 e2 hv=>by
  obtain⟨p,vs,rfl,h1,h2⟩:=hv;obtain⟨h3,h4⟩:=aP ka;exact⟨p,a,by rw[hx],rfl,Ic (by rw[h1,h2.str]),h3,h4 _ W2 e2 rfl⟩)⟩
end
abbrev Rt(B:Type):=Wd->B->VK->Prop
def rs{B:Type}(R:Rp B):Rt B:=λW r Q=>∀u W',Ext W W'->R W'.G r u->Q u W'.H
def ro{B:Type}(R:Rp B):Rt (List B):=λW r Q=>∀p W',Ext W W'->W.H p=none->Ow R W' p r->Q (.ref p) W'.H
section
variable{O B γ δ ε ζ:Type}
def dY(R1:Rp O)(rt:Rt B)(m:O->Res B):Sp:=λvs H Q _=>∃(W:Wd)(a:O)(v:V),W.H=H/\vs=[v]/\R1 W.G a v/\∃Er:Nat->Prop,(m a).OkE Er λr=>rt W r Q
def cB(R1:Rp O)(R2:Rp γ)(rt:Rt B)(m:O->γ->Res B):Sp:=λvs H Q _=>∃(W:Wd)(a:O)(b:γ)(v u:V),W.H=H/\vs=[v,u]/\R1 W.G a v/\R2 W.G b u/\∃Er:Nat->Prop,(m a b).OkE Er λr=>rt W r Q
def jO(R1:Rp O)(R2:Rp γ)(R3:Rp δ)(rt:Rt B)(m:O->γ->δ->Res B):Sp:=λvs H Q _=>∃(W:Wd)(a:O)(b:γ)(c:δ)(v u w:V),W.H=H/\vs=[v,u,w]/\R1 W.G a v/\R2 W.G b u/\R3 W.G c w/\∃Er:Nat->Prop,(m a b c).OkE Er λr=>rt W r Q
def yR(R1:Rp O)(R2:Rp γ)(R3:Rp δ)(R4:Rp ε)(rt:Rt B)(m:O->γ->δ->ε->Res B):Sp:=λvs H Q _=>∃(W:Wd)(a:O)(b:γ)(c:δ)(d:ε)(v u w x:V),W.H=H/\vs=[v,u,w,x]/\R1 W.G a v/\R2 W.G b u/\R3 W.G c w/\R4 W.G d x/\∃Er:Nat->Prop,(m a b c d).OkE Er λr=>rt W r Q
variable{t t1 t2 t3 t4 t5:TE}{Y:St}{W W0 W':Wd}{K:Gp}
section
variable{R1:Rp O}{R2:Rp γ}{R3:Rp δ}{R4:Rp ε}{R5:Rp ζ}[Mono R1][Mono R2][Mono R3][Mono R4][Mono R5]{m1:Res O}{m2:Res γ}{m3:Res δ}{m4:Res ε}{m5:Res ζ}{E:XK}
theorem dz{R:Rp B}{m:O->Res B}(h1:EV Er t1 Y W (sh R1) m1):EV Er (aU (dY R1 (rs R) m) [] E<|ah t1 aO) Y W (sh R) (m1.bind λa=>m a):=λW1 e1 Q k=>
 h1 W1 e1 _ ((Gj k).imp λa ka v W2 e2 hv=>⟨W2,a,v,rfl,rfl,hv,Er,ka.imp λr kr u W' e hu=>kr u W' (e2.trans e) hu⟩)
theorem bM{R:Rp B}{m:O->γ->Res B}(h1:EV Er t1 Y W (sh R1) m1)(h2:EV Er t2 Y W (sh R2) m2):EV Er (aU (cB R1 R2 (rs R) m) [] E<|ah t1<|ah t2 aO) Y W (sh R) (m1.bind λa=>m2.bind λb=>m a b):=λW1 e1 Q k=>
 h1 W1 e1 _ ((Gj k).imp λa ka v W2 e2 hv=>h2 W2 (e1.trans e2) _<|(Gj ka).imp λb kb u W3 e3 hu=>⟨W3,a,b,v,u,rfl,rfl,MonoW.mono (R:=sh R1) e3 hv,hu,Er,kb.imp λr kr u W' e hu=>kr u W' ((e2.trans e3).trans e) hu⟩)
theorem mY{R:Rp B}{m:O->γ->Res (List B)}(h1:EV Er t1 Y W (sh R1) m1)(h2:EV Er t2 Y W (sh R2) m2):EVo Er (aU (cB R1 R2 (ro R) m) [] E<|ah t1<|ah t2 aO) Y W R (m1.bind λa=>m2.bind λb=>m a b):=λW1 e1 Q k=>
 h1 W1 e1 _ ((Gj k).imp λa ka v W2 e2 hv=>h2 W2 (e1.trans e2) _<|(Gj ka).imp λb kb u W3 e3 hu=>⟨W3,a,b,v,u,rfl,rfl,MonoW.mono (R:=sh R1) e3 hv,hu,Er,kb.imp λr kr p W' e hp o=>kr p W' ((e2.trans e3).trans e) (none_of (e2.trans e3).h hp) o⟩)
theorem w4{R:Rp B}{m:O->γ->δ->Res B}(h1:EV Er t1 Y W (sh R1) m1)(h2:EV Er t2 Y W (sh R2) m2)(h3:EV Er t3 Y W (sh R3) m3):EV Er (aU (jO R1 R2 R3 (rs R) m) [] E<|ah t1<|ah t2<|ah t3 aO) Y W (sh R) (m1.bind λa=>m2.bind λb=>m3.bind λc=>m a b c):=λW1 e1 Q k=>
 h1 W1 e1 _ ((Gj k).imp λa ka v W2 e2 hv=>h2 W2 (e1.trans e2) _ ((Gj ka).imp λb kb u W3 e3 hu=>h3 W3 ((e1.trans e2).trans e3) _ ((Gj kb).imp λc kc w W4 e4 hw=>
  ⟨W4,a,b,c,v,u,w,rfl,rfl,MonoW.mono (R:=sh R1) (e3.trans e4) hv,MonoW.mono (R:=sh R2) e4 hu,hw,Er,kc.imp λr kr u W' e hu=>kr u W' (((e2.trans e3).trans e4).trans e) hu⟩)))
theorem gm{R:Rp B}{m:O->γ->δ->Res (List B)}(h1:EV Er t1 Y W (sh R1) m1)(h2:EV Er t2 Y W (sh R2) m2)(h3:EV Er t3 Y W (sh R3) m3):EVo Er (aU (jO R1 R2 R3 (ro R) m) [] E<|ah t1<|ah t2<|ah t3 aO) Y W R (m1.bind λa=>m2.bind λb=>m3.bind λc=>m a b c):=λW1 e1 Q k=>
 h1 W1 e1 _ ((Gj k).imp λa ka v W2 e2 hv=>h2 W2 (e1.trans e2) _ ((Gj ka).imp λb kb u W3 e3 hu=>h3 W3 ((e1.trans e2).trans e3) _ ((Gj kb).imp λc kc w W4 e4 hw=>
  ⟨W4,a,b,c,v,u,w,rfl,rfl,MonoW.mono (R:=sh R1) (e3.trans e4) hv,MonoW.mono (R:=sh R2) e4 hu,hw,Er,kc.imp λr kr p W' e hp o=>kr p W' (((e2.trans e3).trans e4).trans e) (none_of ((e2.trans e3).trans e4).h hp) o⟩)))
theorem lH{R:Rp B}{m:O->γ->δ->ε->Res B}(h1:EV Er t1 Y W (sh R1) m1)(h2:EV Er t2 Y W (sh R2) m2)(h3:EV Er t3 Y W (sh R3) m3)(h4:EV Er t4 Y W (sh R4) m4):EV Er (aU (yR R1 R2 R3 R4 (rs R) m) [] E<|ah t1<|ah t2<|ah t3<|ah t4 aO) Y W (sh R) (m1.bind λa=>m2.bind λb=>m3.bind λc=>m4.bind λd=>m a b c d):=λW1 e1 Q k=>
 h1 W1 e1 _ ((Gj k).imp λa ka v W2 e2 hv=>h2 W2 (e1.trans e2) _ ((Gj ka).imp λb kb u W3 e3 hu=>h3 W3 ((e1.trans e2).trans e3) _ ((Gj kb).imp λc kc w W4 e4 hw=>h4 W4 (((e1.trans e2).trans e3).trans e4) _ ((Gj kc).imp λd kd x W5 e5 hx=>
  ⟨W5,a,b,c,d,v,u,w,x,rfl,rfl,MonoW.mono (R:=sh R1) ((e3.trans e4).trans e5) hv,MonoW.mono (R:=sh R2) (e4.trans e5) hu,MonoW.mono (R:=sh R3) e5 hw,hx,Er,kd.imp λr kr u W' e hu=>kr u W' ((((e2.trans e3).trans e4).trans e5).trans e) hu⟩))))
end
def Yl(J:It)(W:Wd)(R:Rp O)(xs:List O):Prop:=∀W1:Wd,Same W.G W1.G->(∀(i:Nat)(a:O),xs[i]? =some a->J.go i W1.H/\∀x H',J.yld i W1.H x H'->∃W2:Wd,W2.H=H'/\Ext W1 W2/\R W2.G a x)/\J.stop xs.length W1.H
def IV(Er:Nat->Prop)(wi:TI)(Y:St)(W:Wd)(R:Rp O)(m:Res (List O)):Prop:=∀W1,Ext W W1->∀P:It->Hp->Prop,m.OkE Er (λxs=>∀J W2,Ext W1 W2->Yl J W2 R xs->P J W2.H)->wi Y W1.H P
theorem dv{R:Rp O}[Mono R]{m:Res (List O)}(h:EV Er t Y W (sh<|isL R) m):IV Er (oP K t) Y W R m:=λW1 e1 P k=>
 h W1 e1 _ (k.imp λxs kx v W2 e2 hv=>by
  obtain⟨p,vs,rfl,h1,h2⟩:=hv;refine⟨p,rfl,⟨vs,Ic (W2.ok _ _ h1)⟩,kx _ W2 e2 λW3 e3=>⟨λi a ha=>?_,vs,Ic (W3.ok _ _ (e3 _ _ h1)),by rw[h2.1];exact GO _⟩⟩;obtain⟨x,hx,hr⟩:=h2.get ha;refine⟨⟨vs,x,Ic (W3.ok _ _ (e3 _ _ h1)),hx⟩,λy H'⟨z1,z2⟩=>⟨W3,z1.symm,.refl _,?_⟩⟩;have:=z2 vs (Ic (W3.ok _ _ (e3 _ _ h1)));rw[hx]at this;cases this;exact Gm e3 hr)
theorem j0{m:Res Tx}(h:EV Er t Y W (sh isS) m):IV Er (C4 t) Y W isS (m.bind λx=>.ok<|aW x):=λW1 e1 P k=>
 h W1 e1 _ ((Gj k).imp λx kx v W2 e2 hv=>by
  cases hv;refine⟨x,rfl,kx _ W2 e2 λW3 e3=>⟨λi a ha=>?_,by show x.length<=(aW x).length;simp[aW]⟩⟩;unfold aW at ha;rw[Hd]at ha;cases hc:x[i]? with
  |none=>rw[hc]at ha;cases ha
  |some c=>
   rw[hc]at ha;cases ha;refine⟨(Gx.mp hc).1,λy H'⟨z1,c',z2,z3⟩=>⟨W3,z1.symm,.refl _,?_⟩⟩;rw[hc]at z2;cases z2;exact z3)
theorem jh{m:Res Int}(h:EV Er t Y W (sh isI) m):IV Er (vh<|ah t aO) Y W isI (m.bind λn=>hU n):=λW1 e1 P k=>
 h W1 e1 _ ((Gj k).imp λn kn v W2 e2 hv=>by
  cases hv;obtain⟨hb,kn⟩:=aP kn;refine⟨n,rfl,hb.1,hb.2,kn _ W2 e2 λW3 e3=>⟨λi a ha=>?_,by show n.toNat<=(gc n).length;simp[gc]⟩⟩;unfold gc at ha;rw[Hd]at ha;have hi:i<n.toNat:=by
   refine HX λz=>?_;rw[Hv.mpr (by simp;omega)]at ha;cases ha
  rw[List.getElem?_range hi]at ha;cases ha;exact⟨hi,λy H'⟨z1,z2⟩=>⟨W3,z1.symm,.refl _,by rw[z2];show Kf (0+(i:Int))=.int (i:Int);rw[Int.zero_add]⟩⟩)
def SrcR(K:Gp)(W:Wd)(R:Rp O)(xs:List O)(v:V):Prop:=∃(c:Src)(vs:List V),v=c.val/\(∀W1:Wd,Same W.G W1.G->c.has K W1.H vs)/\LR R W.G xs vs
theorem SrcR.mono{R:Rp O}[Mono R]{xs:List O}{v:V}(h:SrcR K W R xs v)(e:Same W.G W'.G):SrcR K W' R xs v:=by
 obtain⟨c,vs,h1,h2,h3⟩:=h;exact⟨c,vs,h1,λW1 e1=>h2 W1<|e.trans e1,h3.same e⟩
def SV(Er:Nat->Prop)(t:TE)(Y:St)(W:Wd)(K:Gp)(R:Rp O)(m:Res (List O)):Prop:=EV Er t Y W (λW xs v=>SrcR K W R xs v) m
theorem eP{R:Rp O}[Mono R]{m:Res (List O)}(h:EV Er t Y W (sh<|isL R) m):SV Er t Y W K R m:=h.imp λW xs v⟨p,vs,h0,h1,h2⟩=>⟨.lst p,vs,h0,λW1 e1=>Ic<|W1.ok _ _<|e1 _ _ h1,h2⟩
theorem w5{H:Hp}(x:Tx):LR isS H (aW x) (x.map λc=>Jp<|sOf [c]):=⟨by simp[aW],λi v m e1 e2=>by
 unfold aW at e2;rw[Hd]at e1 e2;cases hc:x[i]? with
 |none=>rw[hc]at e1;cases e1
 |some c=>rw[hc]at e1 e2;cases e1;cases e2;rfl⟩
theorem hW{m:Res Tx}(h:EV Er t Y W (sh isS) m):SV Er t Y W K isS (m.bind λx=>.ok<|aW x):=λW1 e1 Q k=>
 h W1 e1 _ ((Gj k).imp λx kx v W2 e2 hv=>by cases hv;exact kx _ W2 e2 ⟨.str x,_,rfl,λ_ _=>rfl,w5 x⟩)
theorem hX{R1:Rp O}{R2:Rp B}[Mono R1][Mono R2]{m1:Res (List O)}{m2:Res (List B)}(h1:SV Er t1 Y W K R1 m1)(h2:SV Er t2 Y W K R2 m2):IV Er (AL K<|ah t1<|ah t2 aO) Y W (isT2 K R1 R2) (m1.bind λxs=>m2.bind λys=>.ok<|xs.zip ys):=λW1 e1 P k=>
 h1 W1 e1 _ ((Gj k).imp λxs kx v W2 e2 hv=>h2 W2 (e1.trans e2) _ ((Gj kx).imp λys ky u W3 e3 hu=>by
  obtain⟨c1,vs,rfl,a1,b1⟩:=SrcR.mono hv e3.g;obtain⟨c2,us,rfl,a2,b2⟩:=hu;refine⟨c1,c2,vs,us,rfl,a1 W3<|.refl _,a2 W3<|.refl _,ky _ W3 (e2.trans e3) λW4 e4=>⟨λi ab hab=>?_,?_⟩⟩
  ·rw[Js]at hab;obtain⟨x,hx,rx⟩:=b1.get hab.1;obtain⟨y,hy,ry⟩:=b2.get hab.2;refine⟨⟨vs,us,x,y,a1 W4 e4,a2 W4 e4,hx,hy⟩,λz H'⟨p,x',y',hp,z0,z1,z2,z3⟩=>⟨W4.new p<|.tup [x',y'],by rw[z3];rfl,.new _ hp,p,x',y',z0,NT ao,?_,?_⟩⟩
   ·have:=z1 vs<|a1 W4 e4;rw[hx]at this;cases this;exact Gm (e4.trans (Ext.new _ hp).g) rx
   ·have:=z2 us<|a2 W4 e4;rw[hy]at this;cases this;exact Gm (e4.trans (Ext.new _ hp).g) ry
  ·refine⟨vs,us,a1 W4 e4,a2 W4 e4,?_⟩;rw[Kj,b1.1,b2.1];omega))
theorem tZ{f:O->Res B}{xs:List O}{i:Nat}{a:O}(h:xs[i]? =some a):mq f (xs.drop i)=(f a).bind λb=>(mq f<|xs.drop<|i+1).bind λbs=>.ok (b::bs):=by
 obtain⟨hi,e⟩:=Gx.mp h;rw[Jt hi,e];rfl
theorem qO{f:O->Res (Option B)}{xs:List O}{i:Nat}{a:O}(h:xs[i]? =some a):je f (xs.drop i)=(f a).bind λb=>(je f<|xs.drop<|i+1).bind λbs=>.ok (match b with|some b=>b::bs|none=>bs):=by
 obtain⟨hi,e⟩:=Gx.mp h;rw[Jt hi,e];rfl
end
section
variable{O B γ δ:Type}{t u:TS}{te ti:TE}{g:TG}{D:Ends}{Y:St}{W W0 W':Wd}{K:Gp}{i j k n:Nat}{P:St->Hp->Prop}{H:Hp}{v:V}
theorem gn{σ':St}(h:P σ' H)(hσ:Y.set i (some v)=σ':=by rfl):bc i v Y H P:=by subst hσ;exact h
theorem lI{σ':V->V->St}{R1:Rp O}{R2:Rp B}{ab:O×B}(h:isT2 K R1 R2 W.G ab v)(q:∀x y,R1 W.G ab.1 x->R2 W.G ab.2 y->P (σ' x y) W.H)(hσ:∀x y,(Y.set i<|some x).set j (some y)=σ' x y:=by intro _ _;rfl):d6 K 2 (bH (bc i)<|bH (bc j) dq) v Y W.H P:=by
 obtain⟨p,x,y,h0,h,h1,h2⟩:=h;exact⟨p,_,h0,Same.tup W.ok h,rfl,x,_,rfl,y,_,rfl,rfl,by have:=q x y h1 h2;rw[<-hσ]at this;exact this⟩
theorem pA{σ':V->V->V->St}{R1:Rp O}{R2:Rp B}{R3:Rp γ}{ab:O×B×γ}(h:isT3 K R1 R2 R3 W.G ab v)(q:∀x y z,R1 W.G ab.1 x->R2 W.G ab.2.1 y->R3 W.G ab.2.2 z->P (σ' x y z) W.H)(hσ:∀x y z,((Y.set i<|some x).set j (some y)).set k (some z)=σ' x y z:=by intro _ _ _;rfl):d6 K 3 (bH (bc i)<|bH (bc j)<|bH (bc k) dq) v Y W.H P:=by
 obtain⟨p,x,y,z,h0,h,h1,h2,h3⟩:=h;exact⟨p,_,h0,Same.tup W.ok h,rfl,x,_,rfl,y,_,rfl,z,_,rfl,rfl,by have:=q x y z h1 h2 h3;rw[<-hσ]at this;exact this⟩
theorem EA{σ':V->V->V->V->St}{R1:Rp O}{R2:Rp B}{R3:Rp γ}{R4:Rp δ}{ab:O×B×γ×δ}(h:isT4 K R1 R2 R3 R4 W.G ab v)(q:∀x y z w,R1 W.G ab.1 x->R2 W.G ab.2.1 y->R3 W.G ab.2.2.1 z->R4 W.G ab.2.2.2 w->P (σ' x y z w) W.H)(hσ:∀x y z w,(((Y.set i<|some x).set j (some y)).set k (some z)).set n (some w)=σ' x y z w:=by intro _ _ _ _;rfl):d6 K 4 (bH (bc i)<|bH (bc j)<|bH (bc k)<|bH (bc n) dq) v Y W.H P:=by
 obtain⟨p,x,y,z,w,h0,h,h1,h2,h3,h4⟩:=h;exact⟨p,_,h0,Same.tup W.ok h,rfl,x,_,rfl,y,_,rfl,z,_,rfl,w,_,rfl,rfl,by have:=q x y z w h1 h2 h3 h4;rw[<-hσ]at this;exact this⟩
theorem bj{t r:TS}{D:Ends}{Y:St}{H:Hp}(h:t {D with nx:=r D} Y H):gA t r D Y H:=h
theorem aR{kk k2 k3:St->Hp->Prop}{k1:VK}{σ':V->St}{R:Rw O}{m:Res O}(h:EV Er te Y W R m)(q:m.OkE Er λa=>∀v W',Ext W W'->R W' a v->kk (σ' v) W'.H)(hσ:∀v,Y.set i (some v)=σ' v:=by intro _;rfl):cH te (bc i) ⟨kk,k1,k2,k3⟩ Y W.H:=h W (.refl _) _ (q.imp λa k v W' e r=>by have:=k v W' e r;rw[<-hσ]at this;exact this)
theorem ji{kk k2 k3:St->Hp->Prop}{k1:VK}{σ':Addr->St}{R:Rp O}{m:Res (List O)}(h:EVo Er te Y W R m)(q:m.OkE Er λa=>∀p W',Ext W W'->W.H p=none->Ow R W' p a->kk (σ' p) W'.H)(hσ:∀p,Y.set i (some<|.ref p)=σ' p:=by intro _;rfl):cH te (bc i) ⟨kk,k1,k2,k3⟩ Y W.H:=h W (.refl _) _ (q.imp λa k p W' e hp r=>by have:=k p W' e hp r;rw[<-hσ]at this;exact this)
theorem aA{R:Rw O}{m:Res O}(h:EV Er te Y W R m)(q:m.OkE Er λa=>∀v W',Ext W W'->R W' a v->D.rt v W'.H):d4 te D Y W.H:=h W (.refl _) _ q
theorem iz{R:Rp O}{m:Res (List O)}(h:EVo Er te Y W R m)(q:m.OkE Er λa=>∀p W',Ext W W'->W.H p=none->Ow R W' p a->D.rt (.ref p) W'.H):d4 te D Y W.H:=h W (.refl _) _ q
theorem pC{c:TT}{m:Res Bool}(h:TV Er c Y W m)(q:m.OkE Er λb=>∀W',Ext W W'->if b=true then t D Y W'.H else u D Y W'.H):jb c t u D Y W.H:=h W (.refl _) _ q
theorem og{S:Type}{c:TT}{m:Res Bool}{mA mB:Res S}{P:S->Prop}(Iv:S->Wd->St->Prop)(h:TV Er c Y W m)(q:(m.bind λb=>if b then mA else mB).OkE Er P)
  (hA:∀W'(N:St->Hp->Prop),Ext W W'->(∀s W1 σ1,Same W.G W1.G->Iv s W1 σ1->P s->N σ1 W1.H)->mA.OkE Er P->t {D with nx:=N} Y W'.H)
  (hB:∀W'(N:St->Hp->Prop),Ext W W'->(∀s W1 σ1,Same W.G W1.G->Iv s W1 σ1->P s->N σ1 W1.H)->mB.OkE Er P->u {D with nx:=N} Y W'.H)
  (hd:∀s W1 σ1,Same W.G W1.G->Iv s W1 σ1->P s->D.nx σ1 W1.H):jb c t u D Y W.H:=h W (.refl _) _ ((Gj q).imp λb kb W' e=>by
 cases b with
 |true=>exact hA W' D.nx e hd kb
 |false=>exact hB W' D.nx e hd kb)
structure Mu(W W':Wd)(p:Addr):Prop where
 g:Same W.G W'.G
 e:∀W0:Wd,Ext W0 W->W0.H p=none->Ext W0 W'
 h:∀q,q≠p->W.H q≠none->W'.H q=W.H q/\W'.G q=W.G q
theorem Mu.of{W1:Wd}{p:Addr}{o:HO}(e1:Ext W W1)(hg:W1.G p=none):Mu W (W1.mut p o hg) p:=⟨e1.g,λW0 e0 hp=>(e0.trans e1).mut hp hg,λq hq hn=>by
 obtain⟨o',ho⟩:=K9.mp hn;exact⟨by show cN W1.H p o q=_;rw[ar hq,e1.h _ _ ho,ho],e1.k q hn⟩⟩
theorem jP{kk k2 k3:St->Hp->Prop}{k1:VK}{R:Rp O}[Mono R]{p:Addr}{xs:List O}{m:Res O}(o:Ow R W p xs)(h:EV Er te Y W (sh R) m)(q:(m.bind λa=>eG xs a).OkE Er λys=>∀W',Mu W W' p->Ow R W' p ys->kk Y W'.H)(hi:Y[i]? =some (some<|.ref p):=by rfl):bE (fy K "list" aK (bC i)<|ah te aO) ⟨kk,k1,k2,k3⟩ Y W.H:=by
 obtain⟨vs,h1,h2⟩:=o.h;refine⟨.ref p,hi,.inl ⟨rfl,vs,Ic h1⟩,h W (.refl _) _<|(Gj q).imp λa ka v W2 e2 hv=>?_⟩;obtain⟨h3,h4⟩:=aP ka;have hg:=(o.mono e2).g;refine⟨p,vs,v,rfl,rfl,e2.h _ _ h1,by rw[h2.1,HR];unfold Mi.cap at h3;omega,h4 (W2.mut p (.lst<|vs++[v]) hg) (.of e2 hg) ⟨hg,_,ao,(h2.same e2.g).snoc hv⟩⟩
theorem LR.set{R:Rp O}{H:Hp}{as:List O}{vs:List V}{a:O}{v:V}(h:LR R H as vs)(r:R H a v)(j:Nat):LR R H (as.set j a) (vs.set j v):=⟨by simp[h.1],λi x m e1 e2=>by
 rw[Ju]at e1 e2;by_cases z:j=i
 ·rw[Z1 z]at e1 e2;split at e1
  ·split at e2;·cases e1;cases e2;exact r
   ·cases e2
  ·cases e1
 ·rw[Z2 z]at e1 e2;exact h.2 i x m e1 e2⟩
theorem yS{kk k2 k3:St->Hp->Prop}{k1:VK}{R:Rp O}[Mono R]{p:Addr}{xs:List O}{m:Res O}{mi:Res Int}(o:Ow R W p xs)(h:EV Er te Y W (sh R) m)(hj:EV Er ti Y W (sh isI) mi)(q:(m.bind λa=>mi.bind λj=>mn xs j a).OkE Er λys=>∀W',Mu W W' p->Ow R W' p ys->kk Y W'.H)(hi:Y[i]? =some (some<|.ref p):=by rfl):cH te (yt (bC i) ti rF) ⟨kk,k1,k2,k3⟩ Y W.H:=by
 obtain⟨vs,h1,h2⟩:=o.h;refine h W (.refl _) _<|(Gj q).imp λa ka v W2 e2 hv=>⟨.ref p,hi,hj W2 e2 _<|(Gj ka).imp λj kj x W3 e3 hx=>?_⟩;cases hx;obtain⟨l,h3,h4⟩:=dJ<|Gj kj;have e:=e2.trans e3;have hg:=(o.mono e).g;exact⟨p,vs,j,l,rfl,rfl,e.h _ _ h1,by rw[h2.1];exact h3,h4 (W3.mut p (.lst<|vs.set l v) hg) (.of e hg) ⟨hg,_,ao,(h2.same e.g).set (Gm (R:=R) e3.g hv) l⟩⟩
def w6{S:Type}(W:Wd)(Iv:S->Wd->St->Prop)(P:S->Prop):St->Hp->Prop:=λσ' H'=>∃s' W',W'.H=H'/\Same W.G W'.G/\Iv s' W' σ'/\P s'
theorem u6{S:Type}{f:O->S->Res S}{xs:List O}{i:Nat}{a:O}{s:S}(h:xs[i]? =some a):cg f (xs.drop i) s=(f a s).bind λs=>cg f (xs.drop<|i+1) s:=by
 obtain⟨hi,e⟩:=Gx.mp h;rw[Jt hi,e];rfl
theorem oh{S:Type}{wi:TI}{tb:TS}{R:Rp O}{m:Res (List O)}{f:O->S->Res S}{s0:S}{P:S->Prop}(Iv:S->Wd->St->Prop)(hi:IV Er wi Y W R m)(q:(m.bind λxs=>cg f xs s0).OkE Er P)
  (h0:∀W1,Ext W W1->Iv s0 W1 Y)
  (hs:∀Wb W1 W2 a v s σ1 P',Same W.G W1.G->Same Wb.G W1.G->Iv s W1 σ1->Ext W1 W2->R W2.G a v->(f a s).OkE Er P'->g v σ1 W2.H λσ2 H2=>tb {D with nx:=w6 Wb Iv P',ct:=w6 Wb Iv P',bk:=D.nx} σ2 H2)
  (hd:∀s W1 σ1,Same W.G W1.G->Iv s W1 σ1->P s->D.nx σ1 W1.H):vi wi g tb D Y W.H:=by
 refine hi W (.refl _) _<|(Gj q).imp λxs kx J W1 e1 hy=>?_;refine⟨λi n σ' H'=>n=xs.length-i/\i<=xs.length/\∃s' W',W'.H=H'/\Same W1.G W'.G/\Iv s' W' σ'/\(cg f (xs.drop i) s').OkE Er P,⟨xs.length,by simp,by simp,s0,W1,rfl,.refl _,h0 W1 e1,by simpa using kx⟩,?_⟩;rintro i n σ1 H1 ⟨rfl,hi1,s,W2,rfl,e2,iv,k⟩;by_cases hlt:i<xs.length
 ·obtain⟨a,ha⟩:∃a,xs[i]? =some a:=⟨xs[i],by simp[hlt]⟩
  obtain⟨h1,h2⟩:=(hy W2 e2).1 i a ha;refine .inr ⟨h1,w6 W1 Iv λs'=>(cg f (xs.drop<|i+1) s').OkE Er P,λσ' H'⟨s',W',z1,z2,z3,z4⟩=>⟨xs.length-(i+1),by omega,rfl,hlt,s',W',z1,z2,z3,z4⟩,λx H' hx=>?_⟩;obtain⟨W3,rfl,e3,rx⟩:=h2 x H' hx;rw[u6 ha]at k;exact hs W1 W2 W3 a x s σ1 (λs'=>(cg f (xs.drop<|i+1) s').OkE Er P) (e1.g.trans e2) e2 iv e3 rx<|Gj k
 ·have e:i=xs.length:=by omega
  subst e;rw[KW]at k;exact .inl ⟨(hy W2 e2).2,hd s W2 σ1 (e1.g.trans e2) iv k⟩
theorem u7{S:Type}{f:O->S->Res (Fl γ S)}{xs:List O}{i:Nat}{a:O}{s:S}(h:xs[i]? =some a):iN f (xs.drop i) s=(f a s).bind (Ce<|iN f<|xs.drop<|i+1):=by
 obtain⟨hi,e⟩:=Gx.mp h;rw[Jt hi,e];rfl
theorem yT{S:Type}{wi:TI}{tb:TS}{R:Rp O}{m:Res (List O)}{f:O->S->Res (Fl γ S)}{s0:S}{P:Fl γ S->Prop}(Iv:S->Wd->St->Prop)(hi:IV Er wi Y W R m)(q:(m.bind λxs=>iN f xs s0).OkE Er P)
  (h0:∀W1,Ext W W1->Iv s0 W1 Y)
  (hs:∀Wb W1 W2 a v s σ1 P',Same W.G W1.G->Same Wb.G W1.G->Iv s W1 σ1->Ext W1 W2->R W2.G a v->(∀r,P' (.rt r)->P (.rt r))->(f a s).OkE Er P'->g v σ1 W2.H λσ2 H2=>tb {D with nx:=w6 Wb Iv λs'=>P'<|.nx s',ct:=w6 Wb Iv λs'=>P'<|.nx s',bk:=D.nx} σ2 H2)
  (hd:∀s W1 σ1,Same W.G W1.G->Iv s W1 σ1->P (.nx s)->D.nx σ1 W1.H):vi wi g tb D Y W.H:=by
 refine hi W (.refl _) _<|(Gj q).imp λxs kx J W1 e1 hy=>?_;refine⟨λi n σ' H'=>n=xs.length-i/\i<=xs.length/\∃s' W',W'.H=H'/\Same W1.G W'.G/\Iv s' W' σ'/\(iN f (xs.drop i) s').OkE Er P,⟨xs.length,by simp,by simp,s0,W1,rfl,.refl _,h0 W1 e1,by simpa using kx⟩,?_⟩;rintro i n σ1 H1 ⟨rfl,hi1,s,W2,rfl,e2,iv,k⟩;by_cases hlt:i<xs.length
 ·obtain⟨a,ha⟩:∃a,xs[i]? =some a:=⟨xs[i],by simp[hlt]⟩
  obtain⟨h1,h2⟩:=(hy W2 e2).1 i a ha;refine .inr ⟨h1,w6 W1 Iv λs'=>(iN f (xs.drop<|i+1) s').OkE Er P,λσ' H'⟨s',W',z1,z2,z3,z4⟩=>⟨xs.length-(i+1),by omega,rfl,hlt,s',W',z1,z2,z3,z4⟩,λx H' hx=>?_⟩;obtain⟨W3,rfl,e3,rx⟩:=h2 x H' hx;rw[u7 ha]at k;exact hs W1 W2 W3 a x s σ1 (λfl=>match fl with| .nx s'=>(iN f (xs.drop<|i+1) s').OkE Er P| .bk s'=>P (.nx s')| .rt r=>P<|.rt r) (e1.g.trans e2) e2 iv e3 rx (λr h=>h) ((Gj k).imp λfl h=>by cases fl<;>exact h)
 ·have e:i=xs.length:=by omega
  subst e;rw[KW]at k;exact .inl ⟨(hy W2 e2).2,hd s W2 σ1 (e1.g.trans e2) iv k⟩
section
variable{r:TS}
theorem gq{R:Rw O}{m:Res O}(h:EV Er te Y W R m)(q:m.OkE Er λa=>∀v W',Ext W W'->R W' a v->g v Y W'.H (r D)):gA (cH te g) r D Y W.H:=h W (.refl _) _ q
theorem u9{R:Rw O}{m:Res O}(h:EV Er te Y W R m)(q:m.OkE Er λa=>∀v W',Ext W W'->R W' a v->r D Y W'.H):gA (bE te) r D Y W.H:=h W (.refl _) _ q
theorem br{c:TT}{m:Res Bool}(h:TV Er c Y W m)(q:m.OkE Er λb=>∀W',Ext W W'->if b=true then t {D with nx:=r D} Y W'.H else u {D with nx:=r D} Y W'.H):gA (jb c t u) r D Y W.H:=h W (.refl _) _ q
theorem lJ{S:Type}{c:TT}{m:Res Bool}{mA mB:Res S}{P:S->Prop}(Iv:S->Wd->St->Prop)(h:TV Er c Y W m)(q:(m.bind λb=>if b then mA else mB).OkE Er P)
  (hA:∀W'(N:St->Hp->Prop),Ext W W'->(∀s W1 σ1,Same W.G W1.G->Iv s W1 σ1->P s->N σ1 W1.H)->mA.OkE Er P->t {D with nx:=N} Y W'.H)
  (hB:∀W'(N:St->Hp->Prop),Ext W W'->(∀s W1 σ1,Same W.G W1.G->Iv s W1 σ1->P s->N σ1 W1.H)->mB.OkE Er P->u {D with nx:=N} Y W'.H)
  (hd:∀s W1 σ1,Same W.G W1.G->Iv s W1 σ1->P s->r D σ1 W1.H):gA (jb c t u) r D Y W.H:=og (D:={D with nx:=r D}) Iv h q hA hB hd
theorem eo{S:Type}{wi:TI}{tb:TS}{R:Rp O}{m:Res (List O)}{f:O->S->Res S}{s0:S}{P:S->Prop}(Iv:S->Wd->St->Prop)(hi:IV Er wi Y W R m)(q:(m.bind λxs=>cg f xs s0).OkE Er P)
  (h0:∀W1,Ext W W1->Iv s0 W1 Y)
  (hs:∀Wb W1 W2 a v s σ1 P',Same W.G W1.G->Same Wb.G W1.G->Iv s W1 σ1->Ext W1 W2->R W2.G a v->(f a s).OkE Er P'->g v σ1 W2.H λσ2 H2=>tb {D with nx:=w6 Wb Iv P',ct:=w6 Wb Iv P',bk:=r D} σ2 H2)
  (hd:∀s W1 σ1,Same W.G W1.G->Iv s W1 σ1->P s->r D σ1 W1.H):gA (vi wi g tb) r D Y W.H:=oh (D:={D with nx:=r D}) Iv hi q h0 hs hd
theorem jQ{S:Type}{wi:TI}{tb:TS}{R:Rp O}{m:Res (List O)}{f:O->S->Res (Fl γ S)}{s0:S}{P:Fl γ S->Prop}(Iv:S->Wd->St->Prop)(hi:IV Er wi Y W R m)(q:(m.bind λxs=>iN f xs s0).OkE Er P)
  (h0:∀W1,Ext W W1->Iv s0 W1 Y)
  (hs:∀Wb W1 W2 a v s σ1 P',Same W.G W1.G->Same Wb.G W1.G->Iv s W1 σ1->Ext W1 W2->R W2.G a v->(∀r,P' (.rt r)->P (.rt r))->(f a s).OkE Er P'->g v σ1 W2.H λσ2 H2=>tb {D with nx:=w6 Wb Iv λs'=>P'<|.nx s',ct:=w6 Wb Iv λs'=>P'<|.nx s',bk:=r D} σ2 H2)
  (hd:∀s W1 σ1,Same W.G W1.G->Iv s W1 σ1->P (.nx s)->r D σ1 W1.H):gA (vi wi g tb) r D Y W.H:=yT (D:={D with nx:=r D}) Iv hi q h0 hs hd
end
theorem ee{S:Type}{Wb W:Wd}{Iv:S->Wd->St->Prop}{P:S->Prop}(s:S)(hs:Same Wb.G W.G)(iv:Iv s W Y)(hq:P s):w6 Wb Iv P Y W.H:=⟨s,W,rfl,hs,iv,hq⟩
end
end Wb
open Wb.EV renaming pk->Jl
open Wb.EVo renaming ev->HN,pk->JB
open Wb.Ext renaming new->LY,own->Po
open Wb.MonoW renaming mono->GX
open Wb.Same renaming tup->Mb
open Wb.SrcR renaming mono->Qn
namespace L2
open PySem PySem.Spec PyProof.Rows
section
variable{X:Cx}{K:Gp}{w:Ha}
theorem km{ns:List Bool}:∀{us:List Gv},Vals (ns.map PM) us->LSm.BoolsAre us ns:=by
 induction ns with
 |nil=>intro us r;cases r;exact .nil
 |cons b r ih=>intro us h;cases h with|cons h1 h2=>cases h1;exact .cons b<|ih h2
theorem ua(hc:X.calm=true)(hK:X.K=K):ei X (.builtin "all") (λxs H Q=>∃(p:Addr)(bs:List Bool),xs=[.ref p]/\SqL K H p (bs.map PM)/\Q (.bl<|bs.all id) H):=by
 subst hK;intro Z_ s Y H xs us Q I r h;obtain⟨p,bs,rfl,hq,q⟩:=h;obtain⟨u,rfl,rx⟩:=fx r;cases rx;obtain⟨its,r',pl,hz⟩:=I.list hq;have hb:=km r';have hl:=pl.isList;have hlt:p<s.heap.objs.size:=by obtain⟨_,e,_⟩:=hl;exact GF e
 refine call_all_walk<|JY hl ?_;refine⟨s.heap.objs.size,[s.heap.objs.size,p],[s.heap.objs.size],its.toArray.size,_,_,λi=>(bs[i]?).getD true,rfl,Q7 (A:=X.A.in1) (I.ok.hd hc) _ p (GV hlt) its.toArray,
  ⟨⟨_,GA _ rfl,rfl,rfl⟩,hl.push _⟩,λi v s' Q' E' hP hQ=>?_,λh' tk hk=>?_⟩
 ·obtain⟨b,e,rfl⟩:=hb.get i v (by simpa using hP);simp only[e,JF]at hQ;exact IT hQ
 ·have e:((JJ its.toArray.size).all λi=>(bs[i]?).getD true)=bs.all id:=by
   rw[GG,hb.length];exact LSm.range_all bs
  rw[e];exact⟨.bl _,H,I.kept<|Pa hk,rfl,q⟩
theorem ub(hc:X.calm=true)(hK:X.K=K):ei X (.builtin "any") (λxs H Q=>∃(p:Addr)(bs:List Bool),xs=[.ref p]/\SqL K H p (bs.map PM)/\Q (.bl<|bs.any id) H):=by
 subst hK;intro Z_ s Y H xs us Q I r h;obtain⟨p,bs,rfl,hq,q⟩:=h;obtain⟨u,rfl,rx⟩:=fx r;cases rx;obtain⟨its,r',pl,hz⟩:=I.list hq;have hb:=km r';have hl:=pl.isList;have hlt:p<s.heap.objs.size:=by obtain⟨_,e,_⟩:=hl;exact GF e
 refine call_any_walk<|JY hl ?_;refine⟨s.heap.objs.size,[s.heap.objs.size,p],[s.heap.objs.size],its.toArray.size,_,_,λi=>(bs[i]?).getD false,rfl,Q7 (A:=X.A.in1) (I.ok.hd hc) _ p (GV hlt) its.toArray,
  ⟨⟨_,GA _ rfl,rfl,rfl⟩,hl.push _⟩,λi v s' Q' E' hP hQ=>?_,λh' tk hk=>?_⟩
 ·obtain⟨b,e,rfl⟩:=hb.get i v (by simpa using hP);simp only[e,JF]at hQ;exact IT hQ
 ·have e:((JJ its.toArray.size).any λi=>(bs[i]?).getD false)=bs.any id:=by
   rw[GG,hb.length];exact LSm.range_any bs
  rw[e];exact⟨.bl _,H,I.kept<|Pa hk,rfl,q⟩
end
end L2
namespace Wb
open PySem L2 Mi
variable{Er:Nat->Prop}
section
variable{O B γ δ:Type}{t ta tb tc:TE}{Y:St}{W W0 W':Wd}{K:Gp}{w:Ha}
theorem rR{a n r:Int}(hc:0<=n/\n<=1000000/\a.natAbs<2^64)(hr:a^n.toNat=r):EV Er (dW (rI BY λi j=>.int<|i^j.toNat) (tC<|.int a)<|tC<|.int n) Y W (sh isI) (.ok r):=λW1 e1 Q k=>⟨a,n,rfl,rfl,hc,by show Q (.int<|a^n.toNat) W1.H;rw[hr];exact k _ W1 (.refl _) rfl⟩
def isScr(K:Gp):Rp (List Int):=λH ns v=>∃a,v=.ref a/\SqL K H a (ns.map Kf)
instance zkeep17:Mono (isScr K):=⟨λe⟨a,h1,h2⟩=>⟨a,h1,e.seq h2⟩⟩
theorem mZ{ma:Res (List Int)}(ha:EV Er ta Y W (sh<|isScr K) ma):EV Er (f9 (λxs H Q=>∃x n,xs=[x]/\oS K x H n/\Q (.int n) H)<|ah ta aO) Y W (sh isI) (ma.bind λa=>.ok (a.length:Int)):=λW1 e1 Q k=>
 ha W1 e1 _ ((Gj k).imp λa ka x W2 e2 hx=>by
  obtain⟨p,rfl,h1⟩:=hx;exact⟨_,a.length,rfl,.inl ⟨_,W2.ok.seq h1,by simp⟩,ka _ W2 e2 rfl⟩)
theorem w8{ma:Res (List Int)}{mb:Res Int}(ha:EV Er ta Y W (sh<|isScr K) ma)(hb:EV Er tb Y W (sh isI) mb):EV Er (dW (cT K) ta tb) Y W (sh isI) (ma.bind λa=>mb.bind λb=>gS a b):=
 qL ha hb λW a b x y Q hx hy k=>by
  cases hy;obtain⟨p,rfl,h1⟩:=hx;obtain⟨c,h4,h5⟩:=dJ k;have lr:LR isI W.G a (a.map Kf):=⟨by simp,λi v m e1 e2=>by rw[Hd,e2]at e1;cases e1;rfl⟩
  obtain⟨z,h6,h7⟩:=nZ lr h4;exact⟨p,_,b,z,rfl,rfl,W.ok.seq h1,h6,h5 _ W (.refl _) h7⟩
theorem rS{ma:Res Bool}(ha:EV Er ta Y W (sh isB) ma):EV Er (f9 (λxs H Q=>(∃i,xs=[.int i]/\Q (.int i) H)\/∃k,xs=[.bl k]/\Q (.int (if k then 1 else 0)) H)<|ah ta aO) Y W (sh isI) (ma.bind λa=>.ok (if a then(1:Int)else 0)):=λW1 e1 Q k=>
 ha W1 e1 _ ((Gj k).imp λa ka x W2 e2 hx=>by cases hx;exact .inr ⟨a,rfl,ka _ W2 e2 rfl⟩)
theorem AX{R:Rp O}{W1 W2:Wd}{xs:List O}{vs:List V}{Q:VK}(h:LR R W2.G xs vs)(e:Ext W1 W2)(k:∀p W2,Ext W1 W2->W1.H p=none->Ow R W2 p xs->Q (.ref p) W2.H)(r:Addr)(hr:W2.H r=none):Q (.ref r) (cN W2.H r<|.lst vs):=
 k r (W2.mut r (.lst vs)<|W2.gnone hr) (e.trans<|.own _ hr) (none_of e.h hr) ⟨W2.gnone hr,vs,ao,h⟩
theorem fi{R:Rp O}{ma:Res (List O)}(ha:EV Er ta Y W (pk R) ma):EVo Er (f9 (λxs H Q=>∃p ys,xs=[.ref p]/\(SqL K H p ys\/SqT K H p ys)/\∀l,H l=none->Q (.ref l) (cN H l<|.lst ys))<|ah ta aO) Y W R ma:=λW1 e1 Q k=>
 ha W1 e1 _ (k.imp λa ka x W2 e2 hx=>by
  obtain⟨p,vs,rfl,h1,h2⟩:=hx;exact⟨p,vs,rfl,.inl (Ic h1),λl hl=>AX h2 e2 ka l hl⟩)
theorem LR.ints{H:Hp}{ns:List Int}{vs:List V}(h:LR isI H ns vs):vs=ns.map Kf:=by
 refine KC λi=>?_;rw[Hd];cases e:ns[i]? with
 |none=>rw[Hv]at e;rw[Hv.mpr (by rw[h.1];exact e)];rfl
 |some m=>obtain⟨v,a,b⟩:=h.get e;rw[a];cases b;rfl
theorem LR.bools{H:Hp}{ns:List Bool}{vs:List V}(h:LR isB H ns vs):vs=ns.map PM:=by
 refine KC λi=>?_;rw[Hd];cases e:ns[i]? with
 |none=>rw[Hv]at e;rw[Hv.mpr (by rw[h.1];exact e)];rfl
 |some m=>obtain⟨v,a,b⟩:=h.get e;rw[a];cases b;rfl
theorem AY{ma:Res (List Bool)}(ha:EV Er ta Y W (pk isB) ma):EV Er (f9 (λxs H Q=>∃(p:Addr)(bs:List Bool),xs=[.ref p]/\SqL K H p (bs.map PM)/\Q (.bl<|bs.all id) H)<|ah ta aO) Y W (sh isB) (ma.bind λa=>.ok<|a.all id):=λW1 e1 Q k=>
 ha W1 e1 _ ((Gj k).imp λa ka x W2 e2 hx=>by
  obtain⟨p,vs,rfl,h1,h2⟩:=hx;exact⟨p,a,rfl,Ic (by rw[h1,h2.bools]),ka _ W2 e2 rfl⟩)
theorem AZ{ma:Res (List Bool)}(ha:EV Er ta Y W (pk isB) ma):EV Er (f9 (λxs H Q=>∃(p:Addr)(bs:List Bool),xs=[.ref p]/\SqL K H p (bs.map PM)/\Q (.bl<|bs.any id) H)<|ah ta aO) Y W (sh isB) (ma.bind λa=>.ok<|a.any id):=λW1 e1 Q k=>
 ha W1 e1 _ ((Gj k).imp λa ka x W2 e2 hx=>by
  obtain⟨p,vs,rfl,h1,h2⟩:=hx;exact⟨p,a,rfl,Ic (by rw[h1,h2.bools]),ka _ W2 e2 rfl⟩)
theorem oi{ma mb:Res Int}(ha:EV Er ta Y W (sh isI) ma)(hb:EV Er tb Y W (sh isI) mb):EV Er (f9 (λxs H Q=>∃i j,xs=[.int i,.int j]/\Q (.int (if j>i then j else i)) H)<|ah ta<|ah tb aO) Y W (sh isI) (ma.bind λa=>mb.bind λb=>.ok (if b>a then b else a)):=λW1 e1 Q k=>
 ha W1 e1 _ ((Gj k).imp λa ka x W2 e2 hx=>hb W2 (e1.trans e2) _ ((Gj ka).imp λb kb y W3 e3 hy=>by cases hx;cases hy;exact⟨a,b,rfl,kb _ W3 (e2.trans e3) rfl⟩))
theorem yU{ma mb:Res Int}(ha:EV Er ta Y W (sh isI) ma)(hb:EV Er tb Y W (sh isI) mb):EV Er (f9 (λxs H Q=>∃i j,xs=[.int i,.int j]/\Q (.int (if j<i then j else i)) H)<|ah ta<|ah tb aO) Y W (sh isI) (ma.bind λa=>mb.bind λb=>.ok (if b<a then b else a)):=λW1 e1 Q k=>
 ha W1 e1 _ ((Gj k).imp λa ka x W2 e2 hx=>hb W2 (e1.trans e2) _ ((Gj ka).imp λb kb y W3 e3 hy=>by cases hx;cases hy;exact⟨a,b,rfl,kb _ W3 (e2.trans e3) rfl⟩))
theorem uc(l:List Int):∀a:Int,(∀x∈l,x<=l.foldl (λa b=>if b>a then b else a) a)/\a<=l.foldl (λa b=>if b>a then b else a) a/\(l.foldl (λa b=>if b>a then b else a) a=a\/l.foldl (λa b=>if b>a then b else a) a∈l):=by
 induction l with
 |nil=>intro a;simp
 |cons x r ih=>
  intro a;obtain⟨h1,h2,h3⟩:=ih (if x>a then x else a);simp only[JQ];refine⟨λy hy=>?_,?_,?_⟩
  ·rcases GK.mp hy with rfl | hy;·refine Pn ?_ h2;split<;>omega
   ·exact h1 y hy
  ·refine Pn ?_ h2;split<;>omega
  ·rcases h3 with h3 | h3
   ·rw[h3];split;·exact .inr<|GD ..
    ·exact .inl rfl
   ·exact .inr<|GB _ h3
theorem B1{ma:Res (List Int)}(ha:EV Er ta Y W (pk isI) ma):EV Er (f9 (λxs H Q=>∃(p:Addr)(ns:List Int),xs=[.ref p]/\SqL K H p (ns.map Kf)/\0<ns.length/\∀M,M∈ns->(∀a∈ns,a<=M)->Q (.int M) H)<|ah ta aO) Y W (sh isI) (ma.bind λa=>yN a):=λW1 e1 Q k=>
 ha W1 e1 _ ((Gj k).imp λa ka x W2 e2 hx=>by
  obtain⟨p,vs,rfl,h1,h2⟩:=hx;obtain⟨h3,h4⟩:=aP ka;refine⟨p,a,rfl,Ic (by rw[h1,h2.ints]),h3,λM hM hb=>?_⟩;have e:M=a.foldl (λa b=>if b>a then b else a) (a.headD 0):=by
   obtain⟨q1,q2,q3⟩:=uc a<|a.headD 0;have m1:=q1 M hM;have m2:a.foldl (λa b=>if b>a then b else a) (a.headD 0)∈a:=by
    rcases q3 with q3|q3
    ·rw[q3];cases a with
     |nil=>cases hM
     |cons x r=>exact GD ..
    ·exact q3
   have:=hb _ m2;omega
  rw[e];exact h4 _ W2 e2 rfl)
theorem w9{f:O->V}{g:B->Key}[DecidableEq B](hg:∀a b,g a=g b->a=b)(kvs:List (B×O))(k:B):fq (kvs.map λp=>(g p.1,f p.2)) (g k)=(look kvs k).map f:=by
 induction kvs with
 |nil=>rfl
 |cons p r ih=>
  unfold look at ih ⊢;rw[Hs];by_cases z:p.1=k;·rw[gY (by rw[z]),IX (by simpa using z)];rfl
  ·rw[gZ<|λe=>z<|hg _ _ e,ih,Hy (by simpa using z)]
theorem oj{R:Rp O}{Rk:Rp B}[DecidableEq B]{d:Addr}{kv:List (Key×V)}{kvs:List (B×O)}{f:O->V}{g:B->Key}(hg:∀a b,g a=g b->a=b)(hf:∀H a,R H a<|f a)(hk:∀H b v,Rk H b v->v=kV (g b))(D:DictK K w d kv)(e:kv=kvs.map λp=>(g p.1,f p.2)){m:Res B}(h:EV Er t Y W (sh Rk) m):
  EV Er (bo K w (tC<|.ref d) t) Y W (sh R) (m.bind λk=>getD kvs k):=λW1 e1 Q k=>
 h W1 e1 _ ((Gj k).imp λb kb v W2 e2 hv=>by
  obtain⟨a,h1,h2⟩:=dJ kb;refine⟨d,kv,g b,f a,rfl,D,hk _ _ _ hv,?_,h2 _ W2 e2 (hf _ _)⟩;rw[e,w9 hg,h1];rfl)
theorem gQ:∀a b:Tx,(GU (sOf a):Key)=GU (sOf b)->a=b:=λa b e=>rK<|PF e
theorem EB:∀a b:Int,(Jf a:Key)=Jf b->a=b:=λa b e=>PD e
theorem n0{d:Addr}{kv:List (Key×V)}{kvs:List (Tx×Int)}(D:DictK K w d kv)(e:kv=kvs.map λp=>(GU<|sOf p.1,Kf p.2)){m:Res Tx}(h:EV Er t Y W (sh isS) m):EV Er (bo K w (tC<|.ref d) t) Y W (sh isI) (m.bind λk=>getD kvs k):=oj (R:=isI) (f:=Kf) (g:=λa=>GU<|sOf a) gQ (λ_ _=>rfl) (λ_ _ _ h=>h) D e h
theorem ud{d:Addr}{kv:List (Key×V)}{kvs:List (Tx×Tx)}(D:DictK K w d kv)(e:kv=kvs.map λp=>(GU<|sOf p.1,Jp<|sOf p.2)){m:Res Tx}(h:EV Er t Y W (sh isS) m):EV Er (bo K w (tC<|.ref d) t) Y W (sh isS) (m.bind λk=>getD kvs k):=oj (R:=isS) (f:=λa=>Jp<|sOf a) (g:=λa=>GU<|sOf a) gQ (λ_ _=>rfl) (λ_ _ _ h=>h) D e h
theorem ue{d:Addr}{kv:List (Key×V)}{kvs:List (Int×Tx)}(D:DictK K w d kv)(e:kv=kvs.map λp=>(Jf p.1,Jp<|sOf p.2)){m:Res Int}(h:EV Er t Y W (sh isI) m):EV Er (bo K w (tC<|.ref d) t) Y W (sh isS) (m.bind λk=>getD kvs k):=oj (R:=isS) (f:=λa=>Jp<|sOf a) (g:=λa=>Jf a) EB (λ_ _=>rfl) (λ_ _ _ h=>h) D e h
def EqK(K:Gp)(H:Hp):Nat->V->V->Prop
  |0,v,u=>v=u/\flat v=true
  |n+1,v,u=>(v=u/\flat v=true)\/ ∃p q xs ys,v= .ref p/\u= .ref q/\((H p=some (.lst xs)/\H q=some (.lst ys))\/(SqT K H p xs/\SqT K H q ys))/\xs.length=ys.length/\
      ∀(i:Nat)(x y:V),xs[i]? =some x->ys[i]? =some y->EqK K H n x y
theorem EqK.same{H H':Hp}(e:Same H H'):∀{n:Nat}{v u:V},EqK K H n v u->EqK K H' n v u
 |0,_,_,h=>h
 |n+1,_,_,h=>by
  rcases h with h|⟨p,q,xs,ys,h1,h2,h3,h4,h5⟩
  ·exact .inl h
  ·refine .inr ⟨p,q,xs,ys,h1,h2,?_,h4,λi x y e1 e2=>EqK.same e<|h5 i x y e1 e2⟩;rcases h3 with⟨a,b⟩|⟨a,b⟩
   ·exact .inl ⟨e _ _ a,e _ _ b⟩
   ·exact .inr ⟨Mb e a,Mb e b⟩
theorem EqK.flat{H:Hp}{n:Nat}{v:V}(h:L2.flat v=true):EqK K H n v v:=by cases n with|zero=>exact⟨rfl,h⟩|succ n=>exact .inl ⟨rfl,h⟩
class EqR(K:Gp){O:Type}(R:Rp O)(n:outParam Nat):Prop where
 eq:∀H a v u m,n<=m->R H a v->R H a u->EqK K H m v u
instance zkeep18:EqR K isI 0:=⟨λH a v u m _ h1 h2=>by cases h1;cases h2;exact .flat rfl⟩
instance zkeep19:EqR K isS 0:=⟨λH a v u m _ h1 h2=>by cases h1;cases h2;exact .flat rfl⟩
instance zkeep23{R:Rp O}{n:Nat}[EqR K R n]:EqR K (isL R) (n+1):=⟨λH a v u m hm⟨p,vs,h1,h2,h3⟩⟨q,us,g1,g2,g3⟩=>by
 cases m with
 |zero=>omega
 |succ m=>
  refine .inr ⟨p,q,vs,us,h1,g1,.inl ⟨h2,g2⟩,by rw[h3.1,g3.1],λi x y e1 e2=>?_⟩;obtain⟨b,hb,rb⟩:=h3.got e1;exact EqR.eq H b x y m (by omega) rb (g3.2 i y b e2 hb)⟩
instance zkeep25{R1:Rp O}{R2:Rp B}{R3:Rp γ}{n k l:Nat}[EqR K R1 n][EqR K R2 k][EqR K R3 l]:EqR K (isT3 K R1 R2 R3) (max n (max k l)+1):=⟨λH a v u m hm⟨p,x,y,z,h0,h,h1,h2,h3⟩⟨q,x',y',z',g0,g,g1,g2,g3⟩=>by
 cases m with
 |zero=>omega
 |succ m=>
  refine .inr ⟨p,q,_,_,h0,g0,.inr ⟨h,g⟩,rfl,λi w w' e1 e2=>?_⟩
  match i,e1,e2 with
  |0,e1,e2=>cases e1;cases e2;exact EqR.eq H _ _ _ m (by omega) h1 g1
  |1,e1,e2=>cases e1;cases e2;exact EqR.eq H _ _ _ m (by omega) h2 g2
  |2,e1,e2=>cases e1;cases e2;exact EqR.eq H _ _ _ m (by omega) h3 g3⟩
end
end Wb
namespace L2
open PySem PySem.Spec PyProof.Rows
section
variable{X:Cx}{K:Gp}{w:Ha}{o e:Expr}{to:TE}{t:TA}{Z7 Z8:Pos}
def Cj(K:Gp):V->List V->Hp->VK->Prop:=λx xs H Q=>∃(p:Addr)(ys:List (List Nat)),x=.str (sOf [])/\xs=[.ref p]/\SqL K H p (ys.map λy=>Jp<|sOf y)/\ys.flatten.length<=100000/\Q (.str<|sOf ys.flatten) H
def Ck:V->List V->Hp->VK->Prop:=λx xs H Q=>∃a b,x=.str a/\xs=[.str b]/\0<=Lz a b/\Q (.int<|Lz a b) H
abbrev EC(X:Cx)(Z8:Pos)(e:Expr):Prop:=((backTo Z8<|starEach [e] X.env).all (λx=> !x.1)&&(backToKw Z8<|keywordEach [] X.env).all (λx=>x.1.isSome)&&decide ([e].length+([]:List Mf).length+(if([]:List Mf).isEmpty then 0 else 1)<30))=true
theorem wa(h:X.K=K)(ho:PE X o to)(ha:PA X [e] t)(hbase:attributeBase o "join" X.env (eval o X.env)=eval o X.env:=by rfl)(hfew:EC X Z8 e:=by rfl)(hline:(Z7.endLine==Z8.line)=true:=by rfl)(hs:starEach [e] X.env=(false,eval e X.env)::starEach [] X.env:=by rfl)(hplain:(backTo Z8<|starEach [] X.env).any (·.1)=false:=by rfl):
  PE X (.Call (.Attribute o "join" Z7) [e] [] Z8) (fy K "str" (Cj K) to t):=gF (K:=K) h JP KL KN (vQ (K:=K) h) ho ha hbase hfew hline hs hplain
theorem n5(h:X.K=K)(hc:X.calm=true)(ho:PE X o to)(ha:PA X [e] t)(hbase:attributeBase o "index" X.env (eval o X.env)=eval o X.env:=by rfl)(hfew:EC X Z8 e:=by rfl)(hline:(Z7.endLine==Z8.line)=true:=by rfl)(hs:starEach [e] X.env=(false,eval e X.env)::starEach [] X.env:=by rfl)(hplain:(backTo Z8<|starEach [] X.env).any (·.1)=false:=by rfl):
  PE X (.Call (.Attribute o "index" Z7) [e] [] Z8) (fy K "str" Ck to t):=gF (K:=K) h JP PySem.F.slot_str_index PySem.F.type_str_index (vI hc) ho ha hbase hfew hline hs hplain
theorem cj(h:X.K=K)(ho:PE X o to)(ha:PA X [e] t)(hbase:attributeBase o "append" X.env (eval o X.env)=eval o X.env:=by rfl)(hfew:EC X Z8 e:=by rfl)(hline:(Z7.endLine==Z8.line)=true:=by rfl)(hs:starEach [e] X.env=(false,eval e X.env)::starEach [] X.env:=by rfl)(hplain:(backTo Z8<|starEach [] X.env).any (·.1)=false:=by rfl):
  PE X (.Call (.Attribute o "append" Z7) [e] [] Z8) (fy K "list" aK to t):=gF (K:=K) h Ht Mz PySem.F.type_list_append tH ho ha hbase hfew hline hs hplain
end
end L2
namespace Wb
open PySem L2 Mi
variable{Er:Nat->Prop}
section
variable{O B γ δ:Type}{t t1 t2 t3 ta tb tc:TE}{Y:St}{W W0 W':Wd}{K:Gp}{w:Ha}
class NN{O:Type}(R:Rp O):Prop where
 nn:∀H a v,R H a v->v≠.non
instance zkeep29{R:Rp O}:NN (isL R):=⟨λ_ _ _⟨p,vs,h,_⟩=>by rw[h];exact λz=>nomatch z⟩
theorem wb{R:Rp O}[NN R]{m:Res O}(h:EV Er t Y W (sh R) m):EV Er t Y W (sh<|isO R) (m.bind λa=>.ok<|some a):=λW1 e1 Q k=>
 h W1 e1 _ ((Gj k).imp λa ka v W2 e2 hv=>ka v W2 e2 ⟨hv,NN.nn _ _ _ hv⟩)
theorem wc{R:Rp O}{m:Res (Option O)}(h:EV Er t Y W (sh<|isO R) m):EV Er t Y W (sh R) (m.bind λa=>fR a):=λW1 e1 Q k=>
 h W1 e1 _ ((Gj k).imp λa ka v W2 e2 hv=>by
  obtain⟨b,rfl,hb⟩:=dJ ka;exact hb v W2 e2 hv.1)
theorem wd{xs:List O}{ys:List B}{zs:List γ}{i:Nat}{p:O×B×γ}(h:(xs.zip<|ys.zip zs)[i]? =some p):xs[i]? =some p.1/\ys[i]? =some p.2.1/\zs[i]? =some p.2.2:=by
 rw[Js]at h;obtain⟨h1,h2⟩:=h;rw[Js]at h2;exact⟨h1,h2.1,h2.2⟩
theorem rV{R1:Rp O}{R2:Rp B}{R3:Rp γ}[Mono R1][Mono R2][Mono R3]{m1:Res (List O)}{m2:Res (List B)}{m3:Res (List γ)}(h1:SV Er t1 Y W K R1 m1)(h2:SV Er t2 Y W K R2 m2)(h3:SV Er t3 Y W K R3 m3):IV Er (A7 K<|ah t1<|ah t2<|ah t3 aO) Y W (isT3 K R1 R2 R3) (m1.bind λxs=>m2.bind λys=>m3.bind λzs=>.ok<|xs.zip<|ys.zip zs):=λW1 e1 P k=>
 h1 W1 e1 _ ((Gj k).imp λxs kx v W2 e2 hv=>h2 W2 (e1.trans e2) _ ((Gj kx).imp λys ky u W3 e3 hu=>h3 W3 ((e1.trans e2).trans e3) _ ((Gj ky).imp λzs kz r W4 e4 hr=>by
  obtain⟨c1,vs,rfl,a1,b1⟩:=Qn hv (e3.trans e4).g;obtain⟨c2,us,rfl,a2,b2⟩:=Qn hu e4.g;obtain⟨c3,rs,rfl,a3,b3⟩:=hr;refine⟨c1,c2,c3,vs,us,rs,rfl,a1 W4<|.refl _,a2 W4<|.refl _,a3 W4<|.refl _,kz _ W4 ((e2.trans e3).trans e4) λW5 e5=>⟨λi ab hab=>?_,?_⟩⟩
  ·obtain⟨q1,q2,q3⟩:=wd hab;obtain⟨x,hx,rx⟩:=b1.get q1;obtain⟨y,hy,ry⟩:=b2.get q2;obtain⟨z,hz,rz⟩:=b3.get q3;refine⟨⟨vs,us,rs,x,y,z,a1 W5 e5,a2 W5 e5,a3 W5 e5,hx,hy,hz⟩,λo H'⟨p,x',y',z',hp,z0,z1,z2,z3,z4⟩=>⟨W5.new p<|.tup [x',y',z'],by rw[z4];rfl,.new _ hp,p,x',y',z',z0,NT ao,?_,?_,?_⟩⟩
   ·have:=z1 vs<|a1 W5 e5;rw[hx]at this;cases this;exact Gm (e5.trans (LY _ hp).g) rx
   ·have:=z2 us<|a2 W5 e5;rw[hy]at this;cases this;exact Gm (e5.trans (LY _ hp).g) ry
   ·have:=z3 rs<|a3 W5 e5;rw[hz]at this;cases this;exact Gm (e5.trans (LY _ hp).g) rz
  ·refine⟨vs,us,rs,a1 W5 e5,a2 W5 e5,a3 W5 e5,?_⟩;rw[Kj,Kj,b1.1,b2.1,b3.1];omega)))
end
end Wb
namespace Mi
theorem jj{a b:Int}(h:0<b):mj a b=.ok (a%b):=aQ h
theorem we{a b:Int}(h1:0<b)(h2:b<1073741824):rN a b=.ok (a/b):=aQ ⟨h1,h2⟩
theorem pD{a b:Int}(h1: -18446744073709551616<a)(h2:a<18446744073709551616):pj a b=.ok (a*b):=aQ<|.inl ⟨h1,h2⟩
theorem wg{a b:Int}(h1: -18446744073709551616<b)(h2:b<18446744073709551616):pj a b=.ok (a*b):=aQ<|.inr ⟨h1,h2⟩
theorem eA{O:Type}{xs:List O}{x:O}(h:xs.length<100000):eG xs x=.ok (xs++[x]):=aQ h
theorem bg{a b:Tx}(h:a.length+b.length<=100000):bS a b=.ok (a++b):=aQ h
theorem yV{O:Type}{a b:List O}(h:a.length+b.length<=100000):AO a b=.ok (a++b):=aQ h
theorem om{a:Tx}(h:a.length<=100000):tV a=.ok (a.length:Int):=aQ h
theorem rW{c:Nat}{n:Int}(h0:0<=n)(h1:n<=100000):yL [c] n=.ok (GS n.toNat c):=aQ ⟨h0,h1⟩
theorem rX{a:Tx}{lo hi:Option Int}(h:a.length<=100000):hR a lo hi=.ok (cut a lo hi):=aQ h
theorem wj{xs:List Tx}(h:xs.flatten.length<=100000):vU xs=.ok xs.flatten:=aQ h
theorem jR{n:Nat}(h:n<=100000):hU (n:Int)=.ok ((JJ n).map λ(i:Nat)=>(i:Int)):=by
 unfold hU;rw[aQ ⟨by omega,by omega⟩];simp[gc]
theorem fg{O:Type}{xs:List O}{i:Int}(h0:0<=i)(h1:i<xs.length):∃x,gS xs i=.ok x/\xs[i.toNat]? =some x:=by
 obtain⟨h,e⟩:=vS h0 h1;exact⟨xs[i.toNat],by unfold gS;rw[e];rfl,by simp[h]⟩
theorem jk{x:Tx}{i:Int}(h0:0<=i)(h1:i<x.length)(h2:x.length<=100000):∃c,iX x i=.ok [c]/\x[i.toNat]? =some c:=by
 obtain⟨h,e⟩:=vS h0 h1;refine⟨x[i.toNat],?_,by simp[h]⟩;unfold iX;rw[aQ h2];show(fR<|tU x i).bind _=_;rw[e];rfl
theorem B2{x:Tx}{i:Int}(h0:0<=i)(h1:i<x.length)(h2:x.length<=100000):iX x i=.ok [x[i.toNat]?.getD 0]:=by
 obtain⟨c,e,h⟩:=jk h0 h1 h2;rw[e,h];rfl
theorem yW{O:Type}{xs:List O}{i:Int}{x:O}(h0:0<=i)(h1:i<xs.length):mn xs i x=.ok (xs.set i.toNat x):=by
 unfold mn ixN;rw[Z1 h0,Z1 h1];rfl
theorem lK{O:Type}[DecidableEq O]{a b:O}(h:a=b):A8 a b=.ok true:=Z1 h
theorem fj{O S:Type}{f:O->S->Res S}(I:List O->S->Prop)(xs:List O)(s0:S)(h0:I [] s0)(step:∀pre a post s,xs=pre++a::post->I pre s->∃s',f a s=.ok s'/\I (pre++[a]) s'):
  ∃s,cg f xs s0=.ok s/\I xs s:=by
 have key:∀(post pre:List O)(s:S),xs=pre++post->I pre s->∃s',cg f post s=.ok s'/\I xs s':=by
  intro post
  induction post with
  |nil=>intro pre s e h;rw[Hw]at e;subst e;exact⟨s,rfl,h⟩
  |cons a r ih=>
   intro pre s e h;obtain⟨s1,e1,h1⟩:=step pre a r s e h;obtain⟨s2,e2,h2⟩:=ih (pre++[a]) s1 (by rw[e];simp) h1;exact⟨s2,by unfold cg;rw[e1];exact e2,h2⟩
 exact key xs [] s0 rfl h0
theorem pE{O S γ:Type}{f:O->S->Res (Fl γ S)}(I:List O->S->Prop)(xs:List O)(s0:S)(h0:I [] s0)(step:∀pre a post s,xs=pre++a::post->I pre s->∃s',f a s=.ok (.nx s')/\I (pre++[a]) s'):
  ∃s,iN f xs s0=.ok (.nx s)/\I xs s:=by
 have key:∀(post pre:List O)(s:S),xs=pre++post->I pre s->∃s',iN f post s=.ok (.nx s')/\I xs s':=by
  intro post
  induction post with
  |nil=>intro pre s e h;rw[Hw]at e;subst e;exact⟨s,rfl,h⟩
  |cons a r ih=>
   intro pre s e h;obtain⟨s1,e1,h1⟩:=step pre a r s e h;obtain⟨s2,e2,h2⟩:=ih (pre++[a]) s1 (by rw[e];simp) h1;exact⟨s2,by unfold iN;rw[e1];exact e2,h2⟩
 exact key xs [] s0 rfl h0
theorem pF{O B:Type}{f:O->Res (Option B)}{g:O->Option B}:∀{xs:List O},(∀x∈xs,f x=.ok (g x))->je f xs=.ok (xs.filterMap g)
 | [],_=>rfl
 |a::r,h=>by
  unfold je;rw[h a<|GD ..,Gk,pF λx hx=>h x<|GB _ hx,Gk,JC];cases g a<;>rfl
theorem lL{O B:Type}{f:O->Res (Option B)}{g:O->Option B}{xs:List O}(hl:xs.length<=100000)(h:∀x∈xs,f x=.ok (g x)):iO xs f=.ok (xs.filterMap g):=by
 unfold iO;rw[aQ hl,Gk,pF h]
theorem wk{O B:Type}{f:O->Res B}{P:O->B->Prop}{xs:List O}(hl:xs.length<=100000)(h:∀x∈xs,∃y,f x=.ok y/\P x y):∃ys,bB xs f=.ok ys/\ys.length=xs.length/\∀(i:Nat)x y,xs[i]? =some x->ys[i]? =some y->P x y:=by
 unfold bB;rw[aQ hl,Gk];clear hl
 induction xs with
 |nil=>exact⟨[],rfl,rfl,λi x y e=>by simp at e⟩
 |cons a r ih=>
  obtain⟨b,e,hb⟩:=h a<|GD ..;obtain⟨bs,e2,hl2,h2⟩:=ih λx hx=>h x<|GB _ hx;refine⟨b::bs,by unfold mq;rw[e,Gk,e2];rfl,by simp[hl2],λi x y e3 e4=>?_⟩;cases i with
  |zero=>cases e3;cases e4;exact hb
  |succ j=>exact h2 j x y e3 e4
theorem A9(l:List Nat):((l.map λc=>[c]):List Tx).flatten=l:=by induction l with|nil=>rfl|cons a r ih=>simp[ih]
theorem wm{O:Type}(l:List O)(k:Nat):cut l none (some (k:Int))=l.take k:=by
 unfold cut sIx;simp only[];rw[Z2 (by omega),IF];simp[List.take_eq_take_iff]
theorem wo{O:Type}(l:List O)(k:Nat):cut l (some (k:Int)) none=l.drop k:=by
 unfold cut sIx;simp only[];rw[Z2 (by omega),IF];by_cases h:k<=l.length;·rw[Nat.min_eq_left h,Kz (by simp)]
 ·rw[Nat.min_eq_right (by omega),Ml (by omega),Ml (by omega)];simp
theorem iA{x:Tx}{t:Tx}(h:t∈aW x):∃c∈x,t=[c]:=by
 unfold aW at h;obtain⟨c,hc,e⟩:=GL.mp h;exact⟨c,hc,e.symm⟩
theorem yX(a:Int):0<=en a:=by unfold en;split<;>omega
section
variable{O B:Type}{P:O->Prop}{Q:B->Prop}
theorem j9{m:Res O}{f:O->Res B}(h:m.Ok λa=>(f a).Ok Q):(m.bind f).Ok Q:=Res.bind_ok h
theorem ED{b:Bool}{A ZY:Res O}(h1:b=true->A.Ok P)(h2:b=false->ZY.Ok P):(if b=true then A else ZY).Ok P:=by
 cases b with
 |true=>exact h1 rfl
 |false=>exact h2 rfl
theorem wq{c:Prop}[Decidable c]{A ZY:Res O}(h1:c->A.Ok P)(h2:¬c->ZY.Ok P):(if decide c=true then A else ZY).Ok P:=by
 by_cases h:c;·rw[decide_eq_true h];exact h1 h
 ·rw[decide_eq_false h];exact h2 h
theorem okR{a:O}(h:P a):(Gr a).Ok P:=h
end
theorem rY{O:Type}(x:List O)(lo hi:Option Int):(cut x lo hi).length<=x.length:=by
 unfold cut;rw[Kd,KP];omega
end Mi
namespace Wb
open PySem L2 Mi
variable{Er:Nat->Prop}
section
variable{O B γ:Type}{K:Gp}{Y:L2.St}{W:Wd}
theorem qP{n:Nat}(h:n<=cap):hU (n:Int)=.ok (gc (n:Int)):=by
 unfold hU;exact aQ (by unfold cap at h;omega)
theorem qQ{ta:TE}{R:Rp O}{m:Res (List O)}(h:EV Er ta Y W (pk R) m):IV Er (vh<|ah (f9 (λxs H Q=>∃x n,xs=[x]/\oS K x H n/\Q (.int n) H)<|ah ta aO) aO) Y W isI (m.bind λxs=>jf xs):=λW1 e1 P k=>
  jh (ff (K:=K) h) W1 e1 P (Pp (Pp ((Gj k).imp λxs kx=>by
      have hc:xs.length<=cap:=by
        unfold jf at kx;exact(aP<|Gj kx).1
      rw[lE hc]at kx;rw[show ∀(Q:Int->Prop)(n:Int),(Gr n).OkE Er Q=Q n from λ_ _=>rfl,qP hc];exact kx)))
end
end Wb
namespace Mi
inductive Dat where
 |n|b (x:Bool)|i (x:Int)|s (x:Tx)|t (xs:List Dat)|l (xs:List Dat)
noncomputable instance zkeep38:DecidableEq Dat:=λ_ _=>Classical.propDecidable _
def Dat.le:Nat->Dat->Prop
 |0,d=>match d with| .t _=>False| .l _=>False|_=>True
 |k+1,d=>match d with| .t xs=>∀x∈xs,Dat.le k x| .l xs=>∀x∈xs,Dat.le k x|_=>True
open Classical in
noncomputable def wt(a b:Dat):Res Bool:=if a=b/\a.le 24 then .ok true else .stuck
theorem wu{a b:Dat}(h:a=b)(hl:a.le 24):wt a b=.ok true:=Z1 ⟨h,hl⟩
def jl(d:Dat)(i:Int):Res Dat:=match d with| .t xs=>fR (tU xs i)|_=>.stuck
def BF:Dat->Option Int| .i x=>some x|_=>none
def oK:Dat->Option Tx| .s x=>some x|_=>none
def DF{O B:Type}(f:Dat->Option O)(g:Dat->Option B):Dat->Option (O×B)
 | .t [x,y]=>(f x).bind λa=>(g y).bind λb=>some (a,b)
 |_=>none
def B3{O:Type}(f:O->Dat)(o:Option O):Dat:=match o with|none=>.n|some a=>f a
def n6(a b:Tx):Res Bool:=.ok<|decide<|a=b
def fe{κ O:Type}[DecidableEq κ](kvs:List (κ×O))(k:κ)(a:O):List (κ×O):=
 if(kvs.any λkv=>decide<|kv.1=k)=true then kvs.map (λkv=>if kv.1=k then(kv.1,a)else kv)else kvs++[(k,a)]
def gr{κ O:Type}[DecidableEq κ](kvs:List (κ×O))(k:κ)(a:O):Res (List<|κ×O):=f6 (kvs.length<cap)<|fe kvs k a
theorem Fg{O:Type}{a:O}{Er:Nat->Prop}{P:O->Prop}(h:P a):(Gr a).OkE Er P:=h
end Mi
open Mi.Dat renaming s->HM,t->Je,l->KO,le->Ni,n->O8,i->PQ
namespace Wb
open PySem L2 Mi
variable{Er:Nat->Prop}
inductive isU(K:Gp)(H:Hp):Dat->V->Prop where
 |n:isU K H .n .non
 |b {x:Bool}:isU K H (.b x) (.bl x)
 |i {x:Int}:isU K H (.i x) (.int x)
 |s {x:Tx}:isU K H (.s x) (.str<|sOf x)
 |t {p:Addr} {xs:List Dat} {vs:List V} (h:SqT K H p vs) (hl:vs.length=xs.length) (r:∀(j:Nat)x v,xs[j]? =some x->vs[j]? =some v->isU K H x v):isU K H (.t xs) (.ref p)
 |l {p:Addr} {xs:List Dat} {vs:List V} (h:H p=some (.lst vs)) (hl:vs.length=xs.length) (r:∀(j:Nat)x v,xs[j]? =some x->vs[j]? =some v->isU K H x v):isU K H (.l xs) (.ref p)
section
variable{O B γ δ:Type}{t t1 t2 t3 t4 ta tb tc td:TE}{Y:St}{W W0 W':Wd}{K:Gp}{w:Ha}
theorem isU.same{H H':Hp}{d:Dat}{v:V}(e:Same H H')(h:isU K H d v):isU K H' d v:=by
 induction h with
 |n=>exact .n
 |b=>exact .b
 |i=>exact .i
 |s=>exact .s
 |t h hl r ih=>exact .t (Mb e h) hl ih
 |l h hl r ih=>exact .l (e _ _ h) hl ih
instance zkeep39:Mono (isU K):=⟨λe h=>isU.same e h⟩
theorem isU.eqk{H:Hp}:∀(n:Nat)(d:Dat)(v u:V),d.le n->isU K H d v->isU K H d u->EqK K H n v u:=by
 intro n
 induction n with
 |zero=>
  intro d v u hd h1 h2;cases h1 with
  |n=>cases h2;exact .flat rfl
  |b=>cases h2;exact .flat rfl
  |i=>cases h2;exact .flat rfl
  |s=>cases h2;exact .flat rfl
  |t h hl r=>exact hd.elim
  |l h hl r=>exact hd.elim
 |succ n ih=>
  intro d v u hd h1 h2;cases h1 with
  |n=>cases h2;exact .flat rfl
  |b=>cases h2;exact .flat rfl
  |i=>cases h2;exact .flat rfl
  |s=>cases h2;exact .flat rfl
  | @t p xs vs h hl r=>
   cases h2 with
   | @t q _ us h' hl' r'=>
    refine .inr ⟨p,q,vs,us,rfl,rfl,.inr ⟨h,h'⟩,by rw[hl,hl'],λi x y e1 e2=>?_⟩;have hi:i<xs.length:=by rw[<-hl];exact(Gx.mp e1).1
    have e3:xs[i]? =some xs[i]:=Hj hi;exact ih xs[i] x y (hd _<|M4 hi) (r i _ x e3 e1) (r' i _ y e3 e2)
  | @l p xs vs h hl r=>
   cases h2 with
   | @l q _ us h' hl' r'=>
    refine .inr ⟨p,q,vs,us,rfl,rfl,.inl ⟨h,h'⟩,by rw[hl,hl'],λi x y e1 e2=>?_⟩;have hi:i<xs.length:=by rw[<-hl];exact(Gx.mp e1).1
    have e3:xs[i]? =some xs[i]:=Hj hi;exact ih xs[i] x y (hd _<|M4 hi) (r i _ x e3 e1) (r' i _ y e3 e2)
def pG(K:Gp)(R:Rp O)(u:O->Dat):Prop:=∀H a v,R H a v->isU K H (u a) v
theorem pH:pG K isI .i:=λ_ _ _ h=>by cases h;exact .i
theorem cR:pG K isS .s:=λ_ _ _ h=>by cases h;exact .s
theorem wx:pG K isN (λ_=>.n):=λ_ _ _ h=>by cases h;exact .n
theorem lM:pG K (isU K) id:=λ_ _ _ h=>h
theorem Cm{R:Rp O}{u:O->Dat}(h:pG K R u):pG K (isO R) (λo=>B3 u o):=λH o v r=>by
 cases o with
 |none=>cases r;exact .n
 |some a=>exact h _ _ _ r.1
theorem jm{R:Rp O}{u:O->Dat}(h:pG K R u):pG K (isL R) (λxs=>.l<|xs.map u):=λH xs v⟨p,vs,h0,h1,h2⟩=>by
 subst h0;refine .l h1 (by rw[GR,h2.1]) λj x v e1 e2=>?_;rw[Hd]at e1;obtain⟨a,ha,rfl⟩:=Ir.mp e1;exact h _ _ _<|h2.2 j v a e2 ha
theorem fk{R1:Rp O}{R2:Rp B}{u1:O->Dat}{u2:B->Dat}(h1:pG K R1 u1)(h2:pG K R2 u2):pG K (isT2 K R1 R2) (λx=>.t [u1 x.1,u2 x.2]):=λH a v⟨p,x,y,h0,h,r1,r2⟩=>by
 subst h0;refine .t h rfl λj d v e1 e2=>?_
 match j,e1,e2 with
 |0,e1,e2=>cases e1;cases e2;exact h1 _ _ _ r1
 |1,e1,e2=>cases e1;cases e2;exact h2 _ _ _ r2
theorem Aa{R1:Rp O}{R2:Rp B}{R3:Rp γ}{u1:O->Dat}{u2:B->Dat}{u3:γ->Dat}(h1:pG K R1 u1)(h2:pG K R2 u2)(h3:pG K R3 u3):pG K (isT3 K R1 R2 R3) (λx=>.t [u1 x.1,u2 x.2.1,u3 x.2.2]):=λH a v⟨p,x,y,z,h0,h,r1,r2,r3⟩=>by
 subst h0;refine .t h rfl λj d v e1 e2=>?_
 match j,e1,e2 with
 |0,e1,e2=>cases e1;cases e2;exact h1 _ _ _ r1
 |1,e1,e2=>cases e1;cases e2;exact h2 _ _ _ r2
 |2,e1,e2=>cases e1;cases e2;exact h3 _ _ _ r3
theorem di{R:Rp O}{u:O->Dat}{m:Res O}(h:pG K R u)(e:EV Er t Y W (sh R) m):EV Er t Y W (sh<|isU K) (m.bind λa=>.ok<|u a):=λW1 e1 Q k=>
 e W1 e1 _ ((Gj k).imp λa ka v W2 e2 hv=>ka v W2 e2<|h _ _ _ hv)
def Ab(K:Gp)(R:Rp O)(f:Dat->Option O):Prop:=∀H d v a,isU K H d v->f d=some a->R H a v
theorem pI:Ab K isI BF:=λ_ _ _ _ h e=>by cases h<;>cases e;rfl
theorem gs:Ab K isS oK:=λ_ _ _ _ h e=>by cases h<;>cases e;rfl
theorem Cn:Ab K (isU K) some:=λ_ _ _ _ h e=>by cases e;exact h
theorem EE{vs:List V}(h:vs.length=2):∃x y,vs=[x,y]:=by match vs,h with| [x,y],_=>exact⟨x,y,rfl⟩
theorem Co{R1:Rp O}{R2:Rp B}{f:Dat->Option O}{g:Dat->Option B}(h1:Ab K R1 f)(h2:Ab K R2 g):Ab K (isT2 K R1 R2) (DF f g):=λH d v a h e=>by
 unfold DF at e;split at e
 ·rename_i x y;obtain⟨a1,e1,e⟩:=IQ.mp e;obtain⟨a2,e2,e⟩:=IQ.mp e;cases e;cases h with
  | @t p _ vs h hl r=>
   obtain⟨x',y',rfl⟩:=EE hl;exact⟨p,x',y',rfl,h,h1 _ _ _ _ (r 0 x x' rfl rfl) e1,h2 _ _ _ _ (r 1 y y' rfl rfl) e2⟩
 ·cases e
theorem dR{R:Rp O}{f:Dat->Option O}{m:Res Dat}(h:Ab K R f)(e:EV Er t Y W (sh<|isU K) m):EV Er t Y W (sh R) (m.bind λd=>fR<|f d):=λW1 e1 Q k=>
 e W1 e1 _ ((Gj k).imp λd kd v W2 e2 hv=>by
  obtain⟨a,h1,h2⟩:=dJ kd;exact h2 v W2 e2 (h _ _ _ _ hv h1))
theorem dG{ma:Res Dat}{mb:Res Int}(ha:EV Er ta Y W (sh<|isU K) ma)(hb:EV Er tb Y W (sh isI) mb):EV Er (dW (dt K) ta tb) Y W (sh<|isU K) (ma.bind λa=>mb.bind λb=>jl a b):=
 qL ha hb λW a b x y Q hx hy k=>by
  cases hy;unfold jl at k;cases hx with
  | @t p xs vs h hl r=>
   obtain⟨c,h4,h5⟩:=dJ k;obtain⟨z,h6,h7⟩:=nZ (R:=isU K) (H:=W.G) (as:=xs) (xs:=vs) ⟨hl,λi v m e1 e2=>r i m v e2 e1⟩ h4;exact⟨p,_,b,z,rfl,rfl,Mb W.ok h,h6,h5 _ W (.refl _) h7⟩
  |_=>exact k.elim
theorem Cp{K:Gp}(a b:String)(r:Bool)(h:Hh [] (.type a) (.type b)=some r):Hh K (.type a) (.type b)=some r:=by first|exact h|(rw[<-h];rfl)
def eQ(K:Gp):Nat->Sp
 |0=>λ_ _ _ _=>False
 |n+1=>λvs H Q _=>∃v u,vs=[v,u]/\((EqK K H n v u/\∀H',Same H H'->Q (.bl true) H')\/∃x y,v=.str x/\u=.str y/\Q (.bl<|decide<|Jp x=Jp y) H)
theorem i0[DecidableEq O]{R:Rp O}[Mono R]{n N:Nat}[EqR K R n]{E:XK}{ma mb:Res O}(hn:n<N)(ha:EV Er ta Y W (sh R) ma)(hb:EV Er tb Y W (sh R) mb):EV Er (aU (eQ K N) [] E<|ah ta<|ah tb aO) Y W (sh isB) (ma.bind λa=>mb.bind λb=>A8 a b):=λW1 e1 Q k=>
 ha W1 e1 _ ((Gj k).imp λa ka x W2 e2 hx=>hb W2 (e1.trans e2) _ ((Gj ka).imp λb kb y W3 e3 hy=>by
  unfold A8 at kb;by_cases z:a=b
  ·rw[Z1 z]at kb;subst z;cases N with
   |zero=>omega
   |succ N=>
    refine⟨x,y,rfl,.inl ⟨EqR.eq W3.H a x y N (by omega) (Gm W3.ok<|Gm (R:=R) e3.g hx)<|Gm W3.ok hy,λH' hs=>?_⟩⟩;exact kb (.bl true) ⟨W3.G,H',W3.ok.trans hs⟩ ⟨e2.g.trans e3.g,(e2.h.trans e3.h).trans hs,λp hp=>(e2.trans e3).k p hp⟩ rfl
  ·rw[Z2 z]at kb;exact kb.elim))
theorem pJ{N:Nat}{E:XK}{ma mb:Res Dat}(hn:24<N)(ha:EV Er ta Y W (sh<|isU K) ma)(hb:EV Er tb Y W (sh<|isU K) mb):EV Er (aU (eQ K N) [] E<|ah ta<|ah tb aO) Y W (sh isB) (ma.bind λa=>mb.bind λb=>wt a b):=λW1 e1 Q k=>
  ha W1 e1 _ ((Gj k).imp λa ka x W2 e2 hx=>hb W2 (e1.trans e2) _ ((Gj ka).imp λb kb y W3 e3 hy=>by
    unfold wt at kb;by_cases z:a=b/\a.le 24
    · rw[Z1 z]at kb;obtain⟨z,hz⟩:=z;subst z;cases N with
      |zero=>omega
      | succ N =>
        have up:∀(m n:Nat)(d:Dat),n<=m->d.le n->d.le m:=by
          intro m
          induction m with
          | zero => intro n d h1 h2; have : n = 0 := by omega
                    subst this;exact h2
          | succ m ih =>
            intro n d h1 h2;cases n with
            | zero => cases d with
              |t xs=>exact h2.elim
              |l xs=>exact h2.elim
              |_=>trivial
            | succ n => cases d with
              |t xs=>exact λx hx=>ih n x (by omega) (h2 x hx)
              |l xs=>exact λx hx=>ih n x (by omega) (h2 x hx)
              |_=>trivial
        refine⟨x,y,rfl,.inl ⟨isU.eqk N a x y (up N 24 a (by omega) hz) (isU.same W3.ok<|isU.same e3.g hx)<|isU.same W3.ok hy,λH' hs=>?_⟩⟩;exact kb (.bl true) ⟨W3.G,H',W3.ok.trans hs⟩ ⟨e2.g.trans e3.g,(e2.h.trans e3.h).trans hs,λp hp=>(e2.trans e3).k p hp⟩ rfl
    ·rw[Z2 z]at kb;exact kb.elim))
theorem lN{N:Nat}{E:XK}{ma mb:Res Tx}(hn:0<N)(ha:EV Er ta Y W (sh isS) ma)(hb:EV Er tb Y W (sh isS) mb):EV Er (aU (eQ K N) [] E<|ah ta<|ah tb aO) Y W (sh isB) (ma.bind λa=>mb.bind λb=>n6 a b):=λW1 e1 Q k=>
 ha W1 e1 _ ((Gj k).imp λa ka x W2 e2 hx=>hb W2 (e1.trans e2) _ ((Gj ka).imp λb kb y W3 e3 hy=>by
  cases hx;cases hy;cases N with
  |zero=>omega
  |succ N=>exact⟨_,_,rfl,.inr ⟨_,_,rfl,rfl,by rw[dS];exact kb _ W3 (e2.trans e3) rfl⟩⟩))
theorem oo{R1:Rp O}{R2:Rp B}{R3:Rp γ}{R4:Rp δ}[Mono R1][Mono R2][Mono R3][Mono R4]{ma:Res O}{mb:Res B}{mc:Res γ}{md:Res δ}(ha:EV Er ta Y W (sh R1) ma)(hb:EV Er tb Y W (sh R2) mb)(hc:EV Er tc Y W (sh R3) mc)(hd:EV Er td Y W (sh R4) md):
  EV Er (d9<|ah ta<|ah tb<|ah tc<|ah td aO) Y W (sh<|isT4 K R1 R2 R3 R4) (ma.bind λa=>mb.bind λb=>mc.bind λc=>md.bind λd=>.ok (a,b,c,d)):=λW1 e1 Q k=>
 ha W1 e1 _ ((Gj k).imp λa ka x W2 e2 hx=>hb W2 (e1.trans e2) _ ((Gj ka).imp λb kb y W3 e3 hy=>hc W3 ((e1.trans e2).trans e3) _ ((Gj kb).imp λc kc z W4 e4 hz=>hd W4 (((e1.trans e2).trans e3).trans e4) _ ((Gj kc).imp λd kd u W5 e5 hu=>⟨(by show 4<=sizeLine;decide),λp hp=>
  kd (.ref p) (W5.new p (.tup [x,y,z,u])) ((((e2.trans e3).trans e4).trans e5).trans (.new _ hp)) ⟨p,x,y,z,u,rfl,NT ao,Gm (LY _ hp).g (Gm (R:=R1) ((e3.trans e4).trans e5).g hx),Gm (R:=R2) (LY _ hp).g (Gm (R:=R2) (e4.trans e5).g hy),Gm (R:=R3) (LY _ hp).g (Gm (R:=R3) e5.g hz),Gm (R:=R4) (LY _ hp).g hu⟩⟩))))
theorem uf{R1:Rp O}{R2:Rp B}{R3:Rp γ}{R4:Rp δ}:∀H b v,isT4 K R1 R2 R3 R4 H b v->∃p xs x,v=.ref p/\SqT K H p xs/\L2.atI xs 0=some x/\R1 H b.1 x:=λ_ _ _⟨p,x,y,z,u,h0,h,h1,h2,h3,h4⟩=>⟨p,_,x,h0,h,rfl,h1⟩
theorem Cq{R1:Rp O}{R2:Rp B}{R3:Rp γ}{R4:Rp δ}:∀H b v,isT4 K R1 R2 R3 R4 H b v->∃p xs x,v=.ref p/\SqT K H p xs/\L2.atI xs 1=some x/\R2 H b.2.1 x:=λ_ _ _⟨p,x,y,z,u,h0,h,h1,h2,h3,h4⟩=>⟨p,_,y,h0,h,rfl,h2⟩
theorem Cr{R1:Rp O}{R2:Rp B}{R3:Rp γ}{R4:Rp δ}:∀H b v,isT4 K R1 R2 R3 R4 H b v->∃p xs x,v=.ref p/\SqT K H p xs/\L2.atI xs 2=some x/\R3 H b.2.2.1 x:=λ_ _ _⟨p,x,y,z,u,h0,h,h1,h2,h3,h4⟩=>⟨p,_,z,h0,h,rfl,h3⟩
theorem Cs{R1:Rp O}{R2:Rp B}{R3:Rp γ}{R4:Rp δ}:∀H b v,isT4 K R1 R2 R3 R4 H b v->∃p xs x,v=.ref p/\SqT K H p xs/\L2.atI xs 3=some x/\R4 H b.2.2.2 x:=λ_ _ _⟨p,x,y,z,u,h0,h,h1,h2,h3,h4⟩=>⟨p,_,u,h0,h,rfl,h4⟩
structure OwD(gk:B->Key)(R:Rp O)(W:Wd)(p:Addr)(xs:List (B×O)):Prop where
 g:W.G p=none
 h:∃kv,W.H p=some (.dK kv)/\kv.length=xs.length/\∀(i:Nat)(q:Key×V)(x:B×O),kv[i]? =some q->xs[i]? =some x->q.1=gk x.1/\R W.G x.2 q.2
section
variable{g:B->Key}{R:Rp O}
theorem OwD.mono[Mono R]{p:Addr}{xs:List (B×O)}(o:OwD g R W p xs)(e:Ext W W'):OwD g R W' p xs:=by
 obtain⟨kv,a,b,c⟩:=o.h;exact⟨by rw[e.k p (by rw[a];exact λz=>nomatch z)];exact o.g,kv,e.h _ _ a,b,λi q x h1 h2=>⟨(c i q x h1 h2).1,Gm e.g (c i q x h1 h2).2⟩⟩
theorem OwD.keep[Mono R]{q:Addr}{xs:List (B×O)}(o:OwD g R W q xs)(hH:W'.H q=W.H q)(hs:Same W.G W'.G)(hg:W'.G q=W.G q):OwD g R W' q xs:=by
 obtain⟨kv,a,b,c⟩:=o.h;exact⟨by rw[hg];exact o.g,kv,by rw[hH];exact a,b,λi q x h1 h2=>⟨(c i q x h1 h2).1,Gm hs (c i q x h1 h2).2⟩⟩
theorem fE[DecidableEq B](hg:∀a b,g a=g b->a=b){H:Hp}:∀(kv:List (Key×V))(xs:List (B×O)),kv.length=xs.length->(∀(i:Nat)(q:Key×V)(x:B×O),kv[i]? =some q->xs[i]? =some x->q.1=g x.1/\R H x.2 q.2)->∀k,match look xs k with|none=>fq kv (g k)=none|some a=>∃v,fq kv (g k)=some v/\R H a v
 | [],[],_,_,k=>rfl
 |q::kv,x::xs,hl,h,k=>by
  have h0:=h 0 q x rfl rfl;have ih:=fE hg kv xs (by simpa using hl) (λi q x h1 h2=>h (i+1) q x h1 h2) k;by_cases e:x.1=k
  ·have e1:look (x::xs) k=some x.2:=by unfold look;rw[IX (by simpa using e)];rfl
   rw[e1];exact⟨q.2,gY (by rw[h0.1,e]),h0.2⟩
  ·have e1:look (x::xs) k=look xs k:=by unfold look;rw[Hy (by simpa using e)]
   rw[e1];have e2:fq (q::kv) (g k)=fq kv (g k):=gZ (λz=>e (hg _ _ (by rw[<-h0.1];exact z)));rw[e2];exact ih
def EVd(Er:Nat->Prop)(t:TE)(Y:St)(W:Wd)(g:B->Key)(R:Rp O)(m:Res (List<|B×O)):Prop:=∀W1,Ext W W1->∀Q:VK,m.OkE Er (λxs=>∀p W2,Ext W1 W2->W1.H p=none->OwD g R W2 p xs->Q (.ref p) W2.H)->t Y W1.H Q
theorem rZ:EVd Er bx Y W g R (.ok []):=λW1 e1 Q k p hp=>k p (W1.mut p (.dK [])<|W1.gnone hp) (.own _ hp) hp ⟨W1.gnone hp,[],ao,rfl,λi q x h=>by simp at h⟩
theorem ug[DecidableEq B][Mono R]{Rk:Rp B}{i:Nat}{p:Addr}{xs:List (B×O)}{mk:Res B}(hg:∀a b,g a=g b->a=b)(hk:∀H b v,Rk H b v->v=kV (g b))(o:OwD g R W p xs)(h:EV Er t Y W (sh Rk) mk)(hi:Y[i]? =some (some<|.ref p):=by rfl):
  EV Er (rH t<|bC i) Y W (sh isB) (mk.bind λk=>.ok<|!(look xs k).isSome):=λW1 e1 Q k=>h W1 e1 _ ((Gj k).imp λb kb v W2 e2 hv=>⟨.ref p,hi,by
  obtain⟨kv,o1,o2,o3⟩:=(o.mono<|e1.trans e2).h;have hl:=fE hg kv xs o2 o3 b;refine⟨p,fq kv<|g b,rfl,by rw[hk _ _ _ hv];exact DGet.k o1,?_⟩;have:(fq kv<|g b).isSome=(look xs b).isSome:=by
   cases z:look xs b with
   |none=>rw[z]at hl;have hl:fq kv (g b)=none:=hl;rw[hl];rfl
   |some a=>rw[z]at hl;obtain⟨u,hu,_⟩:=hl;rw[hu];rfl
  rw[this];exact kb _ W2 e2 rfl⟩)
theorem sd[DecidableEq B](hg:∀a b,g a=g b->a=b){H:Hp}{kv:List (Key×V)}{xs:List (B×O)}(hl:kv.length=xs.length)(h:∀(i:Nat)(q:Key×V)(x:B×O),kv[i]? =some q->xs[i]? =some x->q.1=g x.1/\R H x.2 q.2){k:B}{a:O}{v:V}(r:R H a v):
  (iM kv (g k) v).length=(fe xs k a).length/\∀(i:Nat)(q:Key×V)(x:B×O),(iM kv (g k) v)[i]? =some q->(fe xs k a)[i]? =some x->q.1=g x.1/\R H x.2 q.2:=by
 have hany:(kv.any λp=>decide<|p.1=g k)=(xs.any λp=>decide<|p.1=k):=by
  have key:∀(kv:List (Key×V))(xs:List (B×O)),kv.length=xs.length->(∀(i:Nat)(q:Key×V)(x:B×O),kv[i]? =some q->xs[i]? =some x->q.1=g x.1/\R H x.2 q.2)->(kv.any λp=>decide<|p.1=g k)=(xs.any λp=>decide<|p.1=k):=by
   intro kv
   induction kv with
   |nil=>intro xs hl _;cases xs with|nil=>rfl|cons _ _=>cases hl
   |cons q kv ih=>
    intro xs hl h;cases xs with
    |nil=>cases hl
    |cons x xs=>
     rw[L5,L5,ih xs (by simpa using hl) λi q x h1 h2=>h (i+1) q x h1 h2];congr 1;rw[(h 0 q x rfl rfl).1,HZ];simp only[decide_eq_true_eq];exact⟨hg _ _,λe=>by rw[e]⟩
  exact key kv xs hl h
 unfold iM fe;rw[hany];by_cases c:(xs.any λp=>decide<|p.1=k)=true
 ·rw[Z1 c,Z1 c];refine⟨by simp[hl],λi q x h1 h2=>?_⟩;rw[Hd]at h1 h2;obtain⟨q0,hq0,rfl⟩:=Ir.mp h1;obtain⟨x0,hx0,rfl⟩:=Ir.mp h2;obtain⟨h3,h4⟩:=h i q0 x0 hq0 hx0;by_cases z:x0.1=k;·rw[Z1 z,Z1 (by rw[h3,z])];exact⟨h3,r⟩
  ·rw[Z2 z,Z2 (λe=>z (hg _ _ (by rw[<-h3];exact e)))];exact⟨h3,h4⟩
 ·rw[Z2 c,Z2 c];refine⟨by simp[hl],λi q x h1 h2=>?_⟩;by_cases hi:i<kv.length
  ·rw[Hu hi]at h1;rw[Hu (by rw[<-hl];exact hi)]at h2;exact h i q x h1 h2
  ·rw[Hm (by omega)]at h1;rw[Hm (by rw[<-hl];omega),<-hl]at h2
   match i-kv.length,h1,h2 with
   |0,h1,h2=>cases h1;cases h2;exact⟨rfl,r⟩
end
section
variable{g:B->Key}{R:Rp O}{D:Ends}{r:TS}{te ti:TE}{i:Nat}
theorem kN{kk k2 k3:St->Hp->Prop}{k1:VK}{σ':Addr->St}{m:Res (List<|B×O)}(h:EVd Er te Y W g R m)(q:m.OkE Er λa=>∀p W',Ext W W'->W.H p=none->OwD g R W' p a->kk (σ' p) W'.H)(hσ:∀p,Y.set i (some<|.ref p)=σ' p:=by intro _;rfl):cH te (bc i) ⟨kk,k1,k2,k3⟩ Y W.H:=h W (.refl _) _ (q.imp λa k p W' e hp r=>by have:=k p W' e hp r;rw[<-hσ]at this;exact this)
theorem jn{kk k2 k3:St->Hp->Prop}{k1:VK}[DecidableEq B][Mono R]{Rk:Rp B}{p:Addr}{xs:List (B×O)}{m:Res O}{mk:Res B}(hg:∀a b,g a=g b->a=b)(hk:∀H b v,Rk H b v->v=kV (g b))(o:OwD g R W p xs)(h:EV Er te Y W (sh R) m)(hj:EV Er ti Y W (sh Rk) mk)
  (q:(m.bind λa=>mk.bind λk=>gr xs k a).OkE Er λys=>∀W',Mu W W' p->OwD g R W' p ys->kk Y W'.H) (hi:Y[i]? =some (some<|.ref p):=by rfl):cb (bC i) ti te ⟨kk,k1,k2,k3⟩ Y W.H:=by
 refine h W (.refl _) _<|(Gj q).imp λa ka v W2 e2 hv=>⟨.ref p,hi,hj W2 e2 _<|(Gj ka).imp λk kk x W3 e3 hx=>?_⟩;obtain⟨h3,h4⟩:=aP kk;have e:=e2.trans e3;have o':=o.mono e;obtain⟨kv,o1,o2,o3⟩:=o'.h;obtain⟨p1,p2⟩:=sd hg o2 o3 (k:=k)<|Gm (R:=R) e3.g hv;refine⟨p,_,rfl,by rw[hk _ _ _ hx];exact DPut.k o1 (by rw[o2,HR];unfold Mi.cap at h3;omega),?_⟩;exact h4 (W3.mut p (.dK<|iM kv (g k) v) o'.g) (.of e o'.g) ⟨o'.g,_,ao,p1,p2⟩
end
theorem kS:∀(H:Hp)(b:Tx)(v:V),isS H b v->v=kV (GU<|sOf b):=λ_ _ _ h=>h
theorem EV.go{W1:Wd}{R:Rw O}{m:Res O}{Q:VK}(e:Ext W W1)(h:EV Er t Y W R m)(k:m.OkE Er λa=>∀v W2,Ext W1 W2->R W2 a v->Q v W2.H):t Y W1.H Q:=h W1 e Q k
end
end Wb
namespace Mi
def kindN:List Tx:=[[66,97,100,84,97,98,108,101,116],[66,97,100,82,111,119],[66,97,100,84,101,120,116],[66,97,100,77,97,114,107],[84,111,111,76,111,110,103],[84,111,111,84,105,103,104,116],[83,112,111,111,108,68,114,121],[78,111,84,97,98,108,101,116],[78,111,116,104,105,110,103,76,101,102,116],[85,110,108,105,107,101],[83,101,101,110,84,104,114,101,97,100],[78,111,83,117,99,104,87,97,121],[66,97,114,114,101,100]]
def mr(s:Tx)(j:Nat):Dat:=.t [.s s,.l [.s (kindN.getD j [])]]
def gR(i:Int):Tx:=(toString i).toList.map Char.toNat
def jS(i:Int):Res Tx:=f6 (i.natAbs.log2<1920)<|gR i
def jT(x:Tx):Res Tx:=f6 (x.length<=cap) x
end Mi
namespace L2
open PySem PySem.Spec PyProof.Rows
def XV(x:Addr):Option Addr->Gv
 |none=>.ref x
 |some d=>.int (Int.ofNat d) 0
theorem uh{f:Array Gv->Array Gv}{o:Obj}:(HJ f o).dict=o.dict:=by
 unfold HJ;split<;>rfl
structure Fly(h:Heap)(H:Hp)(lim:Heap)(e C:Addr)(od:Option Addr):Prop where
 he:H e=none
 hl:lim.get? e=none
 ob:∃(oe:Obj)(vs:Array Gv),h.get? e=some oe/\(oe.cls=.ref C/\oe.dict=od)/\oe.data=.fields vs/\vs[2]? =some .none/\
  (vs[1]? =some .none\/∃(T:Addr)(oT:Obj)(ts:Array Gv),vs[1]? =some (.ref T)/\T≠e/\H T=none/\lim.get? T=none/\h.get? T=some oT/\oT.data=.fields ts/\ts[3]? =some .none)
structure Gone(fs:List Addr)(H:Hp)(lim:Heap)(e:Addr)(h h':Heap):Prop where
 keep:∀b o,h.get? b=some o->b∉fs->b≠e->(H b≠none\/lim.get? b≠none)->h'.get? b=some o
 slot:∀b o,h.get? b=some o->b∈fs->∃sl,h'.get? b=some {o with slots:=sl}
 there:∀b o,h.get? b=some o->∃o',h'.get? b=some o'
theorem Gone.trans{fs:List Addr}{H:Hp}{lim:Heap}{e:Addr}{h h1 h2:Heap}(a:Gone fs H lim e h h1)(b:Gone fs H lim e h1 h2):Gone fs H lim e h h2:=
 ⟨λc o q n m k=>b.keep c o (a.keep c o q n m k) n m k,λc o q n=>by
  obtain⟨sl,z⟩:=a.slot c o q n;obtain⟨sl',z'⟩:=b.slot c _ z n;exact⟨sl',z'⟩,λc o q=>by
  obtain⟨o',z⟩:=a.there c o q;exact b.there c o' z⟩
section
variable{M:Oh}{A:Hf}{E:Gv->Gw->Prop}{s:Gw}{base lim:Heap}{H:Hp}{env:Env}{outer:List Env}{L e C:Addr}{od:Option Addr}
abbrev DG(head:Gv)(L:Addr)(pl:List Gv):Obj:={cls:=.type "traceback",dict:=none,data:=.fields ([head,.ref L,.none,rawInt L,.none]++(if pl.isEmpty then GS 6 Hg else pl)).toArray}
theorem se{head:Gv}{hn:Bool}{oe:Obj}{vs:Array Gv}{Q:Unit->Gw->Prop}(hfr:A.frames=some (env::outer))(hfn:s.heap.FunFrames base (env::outer))(hf:env.frame=some L)
  (he:s.heap.get? e=some oe) (hd:oe.data=.fields vs) (hc:oe.cls=.ref C/\oe.dict=od) (h2:vs[2]? =some .none) (hH:H e=none) (hlm:lim.get? e=none)
  (hfree:∀b,s.heap.objs.size<=b->H b=none/\lim.get? b=none)
  (h:∀h',Gone (frs (env::outer)) H lim e s.heap h'->Fly h' H lim e C od->Q () {s with heap:=h'}):
  wpAny M A (do let a <-frameOf env;let pl <-entryPlaceOf L hn;let b <-MW head a .none (rawInt L) .none pl;setField (.ref e) 1 b) (λ_ s'=>wpAny M A (setFlight (.ref e) none) Q E s') E s:=by
 have hsz:1<vs.size:=by have:=(Jo.mp h2).1;omega
 have nfr:e∉(env::outer).filterMap (·.frame):=λhm=>by
  obtain⟨_,o,ho,hnf⟩:=hfn.mem hm;rw[he]at ho;exact hnf vs (by rw[<-Hl ho];exact hd)
 refine Gn<|wpAny_frameOf_fun hfr hfn hf λh1 hs1=>?_;refine Gn<|wpAny_entryPlaceOf λpl hpl=>?_;unfold MW newFields;refine Gn<|IE ?_<|hpl.sizeOk5 _ _ _ _ _;have g1:h1.get? e=some oe:=(hs1.2.1 e nfr).trans he;have g2:(h1.push<|DG head L pl).get? e=some oe:=Gu _ g1;refine IH g2 hd hsz ?_;have ne:h1.objs.size≠e:=Jg<|GF g1;have d3:=Im hd (·.setIfInBounds 1 (GH h1.objs.size));have g3:=HS (HJ (·.setIfInBounds 1 (GH h1.objs.size))) g2<|IZ d3;have gT:=(Hn (h1.push<|DG head L pl) (HJ (·.setIfInBounds 1 (GH h1.objs.size)))<|HW ne).trans (GA h1 rfl);unfold setFlight;refine Gn (He g3 d3 (x:=.ref h1.objs.size) (by simp[hsz]) ?_);rw[Z1 (show(GH h1.objs.size != Hg)=true from by simp)];refine IH gT rfl (by simp only[GG,GI,Hc,II]<;>omega) ?_;have keep1:∀b o,b≠e->h1.get? b=some o->(((h1.push<|DG head L pl).update e (HJ (·.setIfInBounds 1 (GH h1.objs.size)))).update h1.objs.size (HJ (·.setIfInBounds 3 ((none:Option Addr).elim Hg λf=>rawInt f)))).get? b=some o:=λb o hb hq=>by
  rw[Hn _ _<|Jg<|GF hq,Hn _ _<|HW hb];exact Gu _ hq
 have ge:(((h1.push<|DG head L pl).update e (HJ (·.setIfInBounds 1 (GH h1.objs.size)))).update h1.objs.size (HJ (·.setIfInBounds 3 ((none:Option Addr).elim Hg λf=>rawInt f)))).get? e=some (HJ (·.setIfInBounds 1 (GH h1.objs.size)) oe):=by
  rw[Hn _ _ ne];exact g3
 have big:s.heap.objs.size<=h1.objs.size:=hs1.1▸GO _;refine h _ ⟨λb o q n m _=>keep1 b o m<|(hs1.2.1 b n).trans q,λb o q n=>?_,λb o q=>?_⟩ ⟨hH,hlm,_,_,ge,⟨by rw[LQ];exact hc.1,by rw[uh];exact hc.2⟩,d3,by rw[Array.getElem?_setIfInBounds_ne ⋯];exact h2,.inr ⟨h1.objs.size,_,_,by simp[hsz],ne,(hfree _ big).1,(hfree _ big).2,HS _ gT<|IZ<|Im rfl _,Im rfl _,?_⟩⟩
 ·obtain⟨sl,z⟩:=hs1.2.2 b o q;exact⟨sl,keep1 b _ (λy=>nfr<|y▸n) z⟩
 ·by_cases y:b=e;·rw[y];exact⟨_,ge⟩
  ·obtain⟨sl,z⟩:=hs1.2.2 b o q;exact⟨_,keep1 b _ y z⟩
 ·first|(simp;done)|(rcases hpl with rfl|⟨_,_,_,_,_,_,_,rfl⟩<;>simp)
theorem sf{Q:Unit->Gw->Prop}(hfr:A.frames=some (env::outer))(hfn:s.heap.FunFrames base (env::outer))(hf:env.frame=some L)(x:Fly s.heap H lim e C od)
  (hfree:∀b,s.heap.objs.size<=b->H b=none/\lim.get? b=none)
  (h:∀h',Gone (frs (env::outer)) H lim e s.heap h'->Fly h' H lim e C od->Q () {s with heap:=h'}):wpAny M A (noteFrame (.ref e) env) (λ_ s'=>wpAny M A (setFlight (.ref e) none) Q E s') E s:=by
 obtain⟨hH,hlm,oe,vs,he,hc,hd,h2,h1⟩:=x;unfold noteFrame;simp only[hf];rcases h1 with h1|⟨T,oT,ts,h1,hTe,hT0,hTl,hT,hdT,h3⟩
 ·refine Gn<|He he hd h1 ?_;rw[Z2 ⋯];exact se hfr hfn hf he hd hc h2 hH hlm hfree h
 ·refine Gn<|He he hd h1 ?_;rw[Z1 (show(GH T != Hg)=true from by simp)];refine Gn<|He hT hdT h3 ?_;rw[Z2 (show ¬((Hg==rawInt L)=true)from by simp[rawInt])];refine Gn<|IH hT hdT (Jo.mp h3).1 ?_;have other:∀b,b≠T->(s.heap.update T (HJ (·.setIfInBounds 3 Hg))).get? b=s.heap.get? b:=λb hb=>Hn _ _<|HW hb;have nT:∀b o,s.heap.get? b=some o->(∀vs,o.data≠.fields vs)->b≠T:=λb o q hn z=>by
   rw[z,hT]at q;exact hn ts (by rw[<-Hl q];exact hdT)
  have g0:Gone (frs (env::outer)) H lim e s.heap (s.heap.update T (HJ (·.setIfInBounds 3 Hg))):=⟨λb o q n m k=>(other b λz=>by
    rw[z,hT0,hTl]at k;rcases k with k|k<;>exact k rfl).trans q,λb o q n=>⟨o.slots,(other b (by
    obtain⟨_,o',ho,hnf⟩:=hfn.mem n;exact nT b o' ho hnf)).trans q⟩,λb o q=>by
    by_cases z:b=T;·rw[z];exact⟨_,HS _ hT<|IZ<|Im hdT _⟩
    ·exact⟨o,(other b z).trans q⟩⟩
  have sz:(s.heap.update T (HJ (·.setIfInBounds 3 Hg))).objs.size=s.heap.objs.size:=Heap.size_update ..;refine se (s:={s with heap:=s.heap.update T (HJ (·.setIfInBounds 3 Hg))}) hfr (hfn.of_keeps λb o q hn=>⟨o,(other b<|nT b o q hn).trans q,rfl⟩) hf ((other e<|HW hTe).trans he) hd hc h2 hH hlm (λb hb=>hfree b (by rw[<-sz];exact hb)) λh' g1 f1=>h h' (g0.trans g1) f1
theorem ui{Q:Unit->Gw->Prop}(hfr:A.frames=some (env::outer))(hfn:s.heap.FunFrames base (env::outer))(hf:env.frame=some L)(x:Fly s.heap H lim e C od)
  (hfree:∀b,s.heap.objs.size<=b->H b=none/\lim.get? b=none)
  (h:∀h',Gone (frs (env::outer)) H lim e s.heap h'->Fly h' H lim e C od->Q () {s with heap:=h'}):wpAny M A (leaving env<|.ref e) Q E s:=by
 unfold leaving;exact Gn<|sf hfr hfn hf x hfree h
theorem wy{Q:Unit->Gw->Prop}(hfn:s.heap.FunFrames base (env::outer))(x:Fly s.heap H lim e C od)
  (h:∀h',Gone (frs (env::outer)) H lim e s.heap h'->Fly h' H lim e C od->Q () {s with heap:=h'}):wpAny M A (setFlight (.ref e) none) Q E s:=by
 obtain⟨hH,hlm,oe,vs,he,hc,hd,h2,h1⟩:=x;unfold setFlight;rcases h1 with h1|⟨T,oT,ts,h1,hTe,hT0,hTl,hT,hdT,h3⟩
 ·refine Gn<|He he hd h1 ?_;rw[Z2 ⋯];exact Gy<|h s.heap ⟨λb o q _ _ _=>q,λb o q _=>⟨o.slots,q⟩,λb o q=>⟨o,q⟩⟩ ⟨hH,hlm,oe,vs,he,hc,hd,h2,.inl h1⟩
 ·refine Gn<|He he hd h1 ?_;rw[Z1 (show(GH T != Hg)=true from by simp)];refine IH hT hdT (Jo.mp h3).1 ?_;have other:∀b,b≠T->(s.heap.update T (HJ (·.setIfInBounds 3 ((none:Option Addr).elim Hg λf=>rawInt f)))).get? b=s.heap.get? b:=λb hb=>Hn _ _<|HW hb;have gT:=HS (HJ (·.setIfInBounds 3 ((none:Option Addr).elim Hg λf=>rawInt f))) hT<|IZ<|Im hdT _;refine h _ ⟨λb o q n m k=>(other b λz=>by
    rw[z,hT0,hTl]at k;rcases k with k|k<;>exact k rfl).trans q,λb o q n=>⟨o.slots,(other b (by
    obtain⟨_,o',ho,hnf⟩:=hfn.mem n;intro z;rw[z,hT]at ho;exact hnf ts (by rw[<-Hl ho];exact hdT))).trans q⟩,λb o q=>by
    by_cases z:b=T;·rw[z];exact⟨_,gT⟩
    ·exact⟨o,(other b z).trans q⟩⟩ ⟨hH,hlm,oe,vs,(other e (HW hTe)).trans he,hc,hd,h2,.inr ⟨T,_,_,h1,hTe,hT0,hTl,gT,Im hdT _,?_⟩⟩
  have:=(Jo.mp h3).1;simp[this]
end
def CXR(P:GQ)(w:Ha):CXT:=λouter H s E e s'=>∃(x C:Addr)(H':Hp)(od:Option Addr),e=.ref x/\Fly s'.heap H' s.heap x C od/\s'.os=s.os/\Lm s'.gens/\Un (frs outer) [] H H' s.heap s'.heap/\HOk P w H' s'.heap/\E (XV x od) (some C) H'
theorem Fly.lim{h l1 l2:Heap}{H:Hp}{e C:Addr}{od:Option Addr}(f:Fly h H l1 e C od)(k:∀b,l1.get? b=none->l2.get? b=none):Fly h H l2 e C od:=by
 obtain⟨a,b,oe,vs,h1,h2,h3,h4,h5⟩:=f;refine⟨a,k _ b,oe,vs,h1,h2,h3,h4,h5.imp id λ⟨T,oT,ts,q1,q2,q3,q4,q5⟩=>⟨T,oT,ts,q1,q2,q3,k _ q4,q5⟩⟩
section
variable{P:GQ}{w:Ha}{K:Gp}{mg:Str->Option Gv}{base:Heap}{N:List Str}{Z6:Str}{scope:JH}{f:Addr}{cd:Gv}{A:Hf}{outer:List Env}{s0 s:Gw}{H0 H:Hp}{E:XK}{Z_:List (Addr×Obj)}{Y:St}{e C:Addr}{od:Option Addr}
abbrev si(P:GQ)(w:Ha)(K:Gp)(mg:Str->Option Gv)(base:Heap)(N:List Str)(Z6:Str)(scope:JH)(f:Addr)(cd:Gv)(A:Hf)(outer:List Env)(s0:Gw)(H0:Hp)(E:XK):Cx:=lg (CXR P w) P w K mg base N Z6 scope f cd A outer s0 H0 E
theorem Ac(I:Inv (si P w K mg base N Z6 scope f cd A outer s0 H0 E) Z_ Y H s)(x:Fly s.heap H s0.heap e C od)(q:E (XV e od) (some C) H):(si P w K mg base N Z6 scope f cd A outer s0 H0 E).xe (.ref e) s:=by
 have hsz:s0.heap.objs.size<=s.heap.objs.size:=I.sz;have hfree:∀b,s.heap.objs.size<=b->H b=none/\s0.heap.get? b=none:=λb hb=>⟨I.hok.fresh hb,L6<|HB hsz hb⟩
 refine ui (base:=base) (env:=envOfC Z6 scope s0.heap.objs.size f cd) (outer:=outer) (L:=s0.heap.objs.size) (H:=H) (lim:=s0.heap) I.ok.frames I.stack rfl x hfree λh' g fl=>?_;have stk:∀b,b∈frs (envOfC Z6 scope s0.heap.objs.size f cd::outer)->H b=none:=I.stkFree;have low:∀b o,s0.heap.get? b=some o->b∉frs outer->b∉frs (envOfC Z6 scope s0.heap.objs.size f cd::outer):=λb o q n m=>by
  have:b=s0.heap.objs.size\/b∈frs outer:=GK.mp (show b∈s0.heap.objs.size::frs outer from m);rcases this with z|z
  ·have:=GF q;rw[z]at this;exact Hx _ this
  ·exact n z
 have sub:∀b,b∈frs outer->b∈frs (envOfC Z6 scope s0.heap.objs.size f cd::outer):=λb m=>by
  show b∈s0.heap.objs.size::frs outer;exact GB _ m
 have ne0:∀b o,s0.heap.get? b=some o->b≠e:=λb o q z=>by rw[z,x.hl]at q;cases q
 have U:=I.base;refine⟨e,C,H,od,rfl,fl,I.os,I.bare,⟨λb o q1 n hb hx=>g.keep b o (U.keep b o q1 n hb hx) (low b o q1 hb) (ne0 b o q1) (.inr (by rw[q1];exact λz=>nomatch z)),λb o q1 n hb hx=>?_,U.free,λb o q1 hx=>?_,U.tups,U.frzs,U.tbls⟩,λb u hb=>?_,q⟩
 ·obtain⟨sl,z⟩:=U.slot b o q1 n hb hx;obtain⟨sl',z'⟩:=g.slot b _ z<|sub b hb;exact⟨sl',z'⟩
 ·obtain⟨o',z⟩:=U.there b o q1 hx;exact g.there b o' z
 ·refine(I.hok b u hb).stay (λc v hc q1=>?_) (λ_ q1=>q1) λ_ _ q1=>q1;have hn:H c≠none:=by
   rcases hc with z|z
   ·rw[z,hb];exact λz=>nomatch z
   ·rw[z];exact λz=>nomatch z
  exact g.keep c v q1 (λm=>hn<|stk c m) (λz=>hn (by rw[z];exact x.he))<|.inl hn
theorem sj:fo (CXR P w) (si P w K mg base N Z6 scope f cd A outer s0 H0 E) E:=λZ_ Y H s e s' I⟨x,C,H',od,he,fl,os,bare,un,hok,q⟩=>by
 subst he;have I':=I.call' os un hok bare λb z=>absurd z (by simp);refine Ac I' (fl.lim λb hb=>?_) q;cases z:s0.heap.get? b with
 |none=>rfl
 |some o=>
  obtain⟨o',z'⟩:=I.base.there b o z (by simp[lg]);rw[hb]at z';cases z'
end
theorem ObjOk.ex{P:GQ}{w:Ha}{H:Hp}{h:Heap}{a:Addr}:∀{o:HO},ObjOk P w H h a o->∃ob,h.get? a=some ob:=by
 intro o
 induction o with
 |lst xs=>intro x;obtain⟨_,its,n,r,e⟩:=x;exact⟨_,e⟩
 |tup xs=>intro x;obtain⟨_,its,r,ob,e,c⟩:=x;exact⟨_,e⟩
 |dK kvs=>intro x;obtain⟨_,_,vs,r,ob,es,ep,e,c⟩:=x;exact⟨_,e⟩
 |dT kvs=>intro x;obtain⟨_,_,xs,r,ob,es,ep,e,c⟩:=x;exact⟨_,e⟩
 |set S n=>intro x;obtain⟨o,e,_⟩:=Qk x;exact⟨_,e⟩
 |ins C dx fs=>intro x;obtain⟨_,_,_,e,_⟩:=x;exact⟨_,e⟩
 |own y=>intro x;exact x
 |xd fs=>intro x;obtain⟨mA,hn,_⟩:=x;obtain⟨o,es,ep,e,_⟩:=hn;exact⟨_,e⟩
 |rng lo hi=>intro x;obtain⟨t,u,v,e⟩:=x;exact⟨_,e⟩
 |frz o u=>intro x;exact⟨_,x.1⟩
 |tbl ps=>intro x;exact⟨_,x⟩
 |met f y=>intro x;exact⟨_,x⟩
 |ext φ=>intro x;exact x.2.1
def Ecl(h:Heap)(C:Addr):Prop:=∃nm q N bs bm hdct sn sub ab col dd k0 k1 k2 k3 k5 newId mN ZY initId bmB,h.get? C=some (excClassObj nm q C N bs bm hdct sn sub ab col dd k0 k1 k2 k3 k5 newId)/\h.Ns N mN/\mN "__init__"=none/\OwnTail h bmB bm/\ExcBaseFacts ZY newId initId bmB
def wz(E:XK)(C:Addr)(t:TA):TS:=λ_ Y H=>t Y H λvs H1=>vs.length<=sizeLine/\∀x,H1 x=none->E (.ref x) (some C) H1
section
variable{P:GQ}{w:Ha}{K:Gp}{mg:Str->Option Gv}{base:Heap}{N:List Str}{Z6:Str}{scope:JH}{f:Addr}{cd:Gv}{A:Hf}{outer:List Env}{s0:Gw}{H0:Hp}{E:XK}{C:Addr}
theorem gu{x:Str}{np Z8 pos:Pos}{e:Expr}{es:List Expr}{t:TA}(cl:Ecl base C)(hg:Gl (si P w K mg base N Z6 scope f cd A outer s0 H0 E) x)(hm:mg x=some (.ref C))(ha:PA (si P w K mg base N Z6 scope f cd A outer s0 H0 E) (e::es) t)
  (hdb:(x==("__debug__" :Str))=false:=by decide) (he:starEach (e::es) (si P w K mg base N Z6 scope f cd A outer s0 H0 E).env=(false,eval e (si P w K mg base N Z6 scope f cd A outer s0 H0 E).env)::starEach es (si P w K mg base N Z6 scope f cd A outer s0 H0 E).env:=by rfl) (hpl:(backTo Z8<|starEach es (si P w K mg base N Z6 scope f cd A outer s0 H0 E).env).any (·.1)=false:=by rfl):
  PS (si P w K mg base N Z6 scope f cd A outer s0 H0 E) (.Raise (some<|.Call (.Name x np) (e::es) [] Z8) none pos) (wz E C t):=by
 intro Z_ s Y H D I h;obtain⟨nm,q,Nn,bs,bm,hdct,sn,sub,ab,col,dd,k0,k1,k2,k3,k5,newId,mN,ZY,initId,bmB,hC,hN,hni,T,F⟩:=cl;refine wpAny_Raise_call_subT (C:=C) (nm:=nm) (q:=q) (N:=Nn) (bs:=bs) (bm:=bm) (hdct:=hdct) (sn:=sn) (sub:=sub) (ab:=ab) (col:=col) (dd:=dd) (k0:=k0) (k1:=k1) (k2:=k2) (k3:=k3) (k5:=k5) F (mN:=mN) (T.hasType F.hasBase) (I.ok.hd rfl) (by rw[he];show(false||(backTo Z8<|starEach es _).any (·.1))=false;rw[hpl];rfl) hni<|il I hg hm ⟨rfl,?_⟩ hdb;rw[he];refine L7 ?_;show wpAny _ _ (spliced<|backTo Z8 ((false,eval e (si P w K mg base N Z6 scope f cd A outer s0 H0 E).env)::starEach es (si P w K mg base N Z6 scope f cd A outer s0 H0 E).env)) _ _ _;rw[<-he];refine cG (ha Z8 Z_ s Y H _ I h) λus s1⟨vs,H1,I1,r,hz,q1⟩=>⟨rfl,by rw[<-r.length];exact hz,I1.bk _ _ hC,hN.keeps I1.bk,T.keeps I1.bk,λh' y hy=>?_⟩
 obtain⟨t0,h1,h2,h3⟩:=hy.there;have I2:Inv (si P w K mg base N Z6 scope f cd A outer s0 H0 E) Z_ Y H1 {s1 with heap:=h'}:=I1.kept (t':=s1.toks) hy.keeps;have n1:H1 y=none:=by
  cases z:H1 y with
  |none=>rfl
  |some o=>obtain⟨ob,hb⟩:=(I1.hok y o z).ex;rw[hy.new]at hb;cases hb
 have n2:s0.heap.get? y=none:=by
  cases z:s0.heap.get? y with
  |none=>rfl
  |some o=>obtain⟨ob,hb⟩:=I1.base.there y o z (by simp[lg]);rw[hy.new]at hb;cases hb
 exact Ac (od:=none) I2 ⟨n1,n2,_,_,h1,⟨rfl,rfl⟩,rfl,rfl,.inl rfl⟩<|q1 y n1
end
def Xcl(h:Heap)(C:Addr)(bm:List Gv):Prop:=∃nm q N bs hdct sn sub ab col dd k0 k1 k2 k3 k5 newId,h.get? C=some (excClassObj nm q C N bs bm hdct sn sub ab col dd k0 k1 k2 k3 k5 newId)/\bm.contains (.type "BaseException")=true
theorem Xcl.keeps{h h':Heap}{C:Addr}{bm:List Gv}(x:Xcl h C bm)(k:∀b o,h.get? b=some o->h'.get? b=some o):Xcl h' C bm:=by
 obtain⟨nm,q,N,bs,hdct,sn,sub,ab,col,dd,k0,k1,k2,k3,k5,newId,e,hb⟩:=x;exact⟨nm,q,N,bs,hdct,sn,sub,ab,col,dd,k0,k1,k2,k3,k5,newId,k _ _ e,hb⟩
section
variable{M:Oh}{A:Hf}{E:Gv->Gw->Prop}
theorem mv{s:Gw}{e C D:Addr}{bmC bmD:List Gv}{oe:Obj}{Q:Bool->Gw->Prop}(hC:Xcl s.heap C bmC)(hD:Xcl s.heap D bmD)(he:s.heap.get? e=some oe)(hcls:oe.cls=.ref C)(hq:Q ((GH C::bmC).contains (.ref D)) s):wpAny M A (excMatches (.ref e)<|.ref D) Q E s:=by
 obtain⟨h,g,d,t,os⟩:=s;obtain⟨nm,q,N,bs,hdct,sn,sub,ab,col,dd,k0,k1,k2,k3,k5,newId,hC,hbase⟩:=hC;obtain⟨nm',q',N',bs',hdct',sn',sub',ab',col',dd',k0',k1',k2',k3',k5',newId',hD,hbase'⟩:=hD;have hcB:(GH D::bmD).contains (.type "BaseException")=true:=by rw[Nd,hbase',Bool.or_true]
 have f:=tc_notTuple;generalize hb:(GH C::bmC).contains (.ref D)=b at hq;unfold excMatches
 repeat (first|(with_reducible refine ND he ?_;rw[hcls])|with_reducible refine ND hD ?_|(with_reducible refine MX hD ?_;rw[hcB])|(with_reducible refine MX hC ?_;rw[hb])|wp_step)
 first|exact hq|(cases b<;>(wp_walk;exact hq))
end
structure Big(X:Cx)(Z_:List (Addr×Obj))(lim:Heap):Prop where
 old:∀b o,X.s₀.heap.get? b=some o->b∉X.ex->lim.get? b≠none
 loc:lim.get? X.env.locals≠none
 cell:∀x c,X.env.cells.lookup x=some c->lim.get? c≠none
 pin:∀p∈X.pn++Z_,lim.get? p.1≠none
def Own(X:Cx):Prop:=X.stack=X.env::X.outer/\X.env.frame=some X.env.locals
section
variable{X:Cx}{Z_:List (Addr×Obj)}{Y:St}{H:Hp}{s:Gw}{lim h':Heap}{e C:Addr}{od:Option Addr}{oe:Obj}
theorem Own.frs(o:Own X):frs X.stack=X.env.locals::X.fs:=by
 rw[o.1];unfold L2.frs;rw[JC,o.2];rfl
theorem Inv.bigX(I:Inv X Z_ Y H s):Big X Z_ s.heap:=by
 refine⟨λb o q n=>?_,?_,λx c q=>?_,λp hp=>?_⟩
 ·obtain⟨o',z⟩:=I.base.there b o q n;rw[z];exact λz=>nomatch z
 ·obtain⟨m,⟨o,es,ep,ho,_⟩,_⟩:=I.loc;rw[ho];exact λz=>nomatch z
 ·obtain⟨v,o,ho,_⟩:=I.cell x c q;rw[ho];exact λz=>nomatch z
 ·rw[(I.pin p hp).1];exact λz=>nomatch z
theorem Inv.gone(I:Inv X Z_ Y H s)(w:Own X)(x:Fly s.heap H lim e C od)(ZY:Big X Z_ lim)(g:Gone (frs X.stack) H lim e s.heap h'):Inv X Z_ Y H {s with heap:=h'}:=by
 have hf:=w.frs;have ne:∀b,lim.get? b≠none->b≠e:=λb hb z=>hb (by rw[z];exact x.hl);have low:∀b o,X.s₀.heap.get? b=some o->b∉X.fs->b∉frs X.stack:=λb o q n m=>by
  rw[hf]at m;rcases GK.mp m with z|z
  ·have:=GF q;rw[z]at this;exact absurd (GC this I.ok.above)<|Hx _
  ·exact n z
 have cellK:∀y c,X.env.cells.lookup y=some c->∀v,s.heap.IsCell c v->h'.IsCell c v:=λy c q v⟨o,ho,hd⟩=>by
  by_cases m:c∈frs X.stack
  ·obtain⟨sl,z⟩:=g.slot c o ho m;exact⟨_,z,hd⟩
  ·exact⟨o,g.keep c o ho m (ne c<|ZY.cell y c q)<|.inr<|ZY.cell y c q,hd⟩
 refine⟨I.ok,I.os,I.bare,⟨λb o q n hb hx=>?_,λb o q n hb hx=>?_,I.base.free,λb o q hx=>?_,I.base.tups,I.base.frzs,I.base.tbls⟩,?_,λy c q=>?_,I.free,I.freeC,λp hp=>?_,λb u hb=>?_,I.len⟩;·exact g.keep b o (I.base.keep b o q n hb hx) (low b o q hb) (ne b<|ZY.old b o q hx)<|.inr<|ZY.old b o q hx
 ·obtain⟨sl,z⟩:=I.base.slot b o q n hb hx;obtain⟨sl',z'⟩:=g.slot b _ z (by rw[hf];exact GB _ hb);exact⟨sl',z'⟩
 ·obtain⟨o',z⟩:=I.base.there b o q hx;exact g.there b o' z
 ·obtain⟨m,⟨o,es,ep,ho,hd,hk,hm⟩,hl⟩:=I.loc;obtain⟨sl,z⟩:=g.slot _ o ho (by rw[hf];exact GD ..);refine⟨m,⟨_,es,ep,z,hd,hk,hm⟩,λi y v q1 q2 q3=>?_⟩;obtain⟨u,r,l⟩:=hl i y v q1 q2 q3;refine⟨u,r,?_⟩;rcases l with l|⟨k,c,q,z⟩
  ·exact .inl l
  ·exact .inr ⟨k,c,q,cellK y c q _ z⟩
 ·obtain⟨v,z⟩:=I.cell y c q;exact⟨v,cellK y c q v z⟩
 ·obtain⟨q,n,nl,nf,d⟩:=I.pin p hp;exact⟨g.keep p.1 p.2 q (λm=>by
   rw[hf]at m;rcases GK.mp m with z|z
   ·exact nl z
   ·exact nf z) (ne _ (ZY.pin p hp)) (.inr (ZY.pin p hp)),n,nl,nf,d⟩
 ·refine(I.hok b u hb).stay (λc v hc q1=>?_) (λ_ q1=>q1) λ_ _ q1=>q1;have hn:H c≠none:=by
   rcases hc with z|z
   ·rw[z,hb];exact λz=>nomatch z
   ·rw[z];exact λz=>nomatch z
  exact g.keep c v q1 (λm=>hn<|I.stkFree c m) (λz=>hn (by rw[z];exact x.he))<|.inl hn
abbrev Cx.held(X:Cx)(e:Addr)(oe:Obj):Cx:={X with A:=X.A.mark<|some<|.ref e,calm:=false,pn:=(e,oe)::X.pn,xe:=λ_ _=>False}
theorem Inv.held(I:Inv X Z_ Y H s)(q:s.heap.get? e=some oe)(n:H e=none)(nl:e≠X.env.locals)(nf:e∉X.fs)(d:∀v,oe.data≠.cell v):Inv (X.held e oe) Z_ Y H s:=
 ⟨⟨I.ok.mod,I.ok.kind,I.ok.glob,I.ok.blt,I.ok.above,I.ok.inj,I.ok.has,I.ok.cab,λz=>(nomatch z),I.ok.frames,I.ok.stk,I.ok.exf,I.ok.bs,I.ok.bsz,I.ok.noex,I.ok.exfs,I.ok.funs,I.ok.frf⟩,I.os,I.bare,I.base,I.loc,I.cell,I.free,I.freeC,λp hp=>by
  rcases GK.mp hp with z|z;·subst z;exact⟨q,n,nl,nf,d⟩
  ·exact I.pin p z,I.hok,I.len⟩
theorem Inv.unheld(ok:X.Ok)(I:Inv (X.held e oe) Z_ Y H s):Inv X Z_ Y H s:=⟨ok,I.os,I.bare,I.base,I.loc,I.cell,I.free,I.freeC,λp hp=>I.pin p<|GB _ hp,I.hok,I.len⟩
abbrev Cx.pinsX(X:Cx)(ps:List (Addr×Obj)):Cx:={X with pn:=X.pn++ps}
theorem Inv.pinnedX(I:Inv X Z_ Y H s):Inv (X.pinsX Z_) [] Y H s:=⟨⟨I.ok.mod,I.ok.kind,I.ok.glob,I.ok.blt,I.ok.above,I.ok.inj,I.ok.has,I.ok.cab,I.ok.hd,I.ok.frames,I.ok.stk,I.ok.exf,I.ok.bs,I.ok.bsz,I.ok.noex,I.ok.exfs,I.ok.funs,I.ok.frf⟩,I.os,I.bare,I.base,I.loc,I.cell,I.free,I.freeC,λp hp=>I.pin p (by simpa using hp),I.hok,I.len⟩
theorem Inv.unpinnedX{pins':List (Addr×Obj)}(ok:X.Ok)(I:Inv (X.pinsX Z_) pins' Y H s):Inv X Z_ Y H s:=⟨ok,I.os,I.bare,I.base,I.loc,I.cell,I.free,I.freeC,λp hp=>I.pin p<|IK _ hp,I.hok,I.len⟩
def wA(X:Cx)(E:XK)(v:Gv)(s:Gw):Prop:=∃(Z_:List (Addr×Obj))(Y:St)(H:Hp)(x C:Addr)(lim:Heap)(od:Option Addr),v=.ref x/\Inv X Z_ Y H s/\Fly s.heap H lim x C od/\Big X Z_ lim/\(∀b,s.heap.objs.size<=b->lim.get? b=none)/\E (XV x od) (some C) H
theorem so{E:XK}:fo (CXR X.prog X.w) (X.wish<|wA X E) E:=λZ_ Y H s v s' I⟨x,C,H',od,hv,fl,os,bare,un,hok,q⟩=>by
 subst hv;have I0:Inv X Z_ Y H s:=I.unwish;have I':Inv X Z_ Y H' s':=I0.call' os un hok bare λb z=>absurd z (by simp);refine⟨Z_,Y,H',x,C,s.heap,od,rfl,I',fl,I0.bigX,λb hb=>?_,q⟩;cases z:s.heap.get? b with
 |none=>rfl
 |some o=>
  obtain⟨o',z'⟩:=un.there b o z (by simp);exact absurd (GC (GF z') hb)<|Hx _
end
section
variable{X:Cx}{Z_:List (Addr×Obj)}{Y:St}{H:Hp}{s:Gw}{lim h':Heap}{e C:Addr}{oe:Obj}{M:Oh}{A:Hf}{E:Gv->Gw->Prop}
theorem kO{i:Nat}{x:Str}{pos:Pos}{Q:Unit->Gw->Prop}(I:Inv X Z_ Y H s)(hN:X.N.Nodup)(hi:X.N[i]? =some x)(hk:X.env.scope.names.lookup x=some .local)
  (h:∀s',Inv X Z_ (Y.set i none) H s'->Q () s'):wpAny M A (do bindName X.env x .none;unbindBehindTheSuite X.env x pos) Q E s:=by
 obtain⟨m,hn,hl⟩:=id I.loc;have hcls:(X.env.scope.kind== .class||(X.env.scope.kind== .module&&X.env.locals != X.env.globals))=false:=by rw[I.ok.kind];rfl
 have hiσ:i<Y.length:=by rw[I.len];exact(Gx.mp hi).1
 have cne:=I.cne;obtain⟨oL,_,_,hoL,_⟩:=id hn;refine wpAny_nameGoes_keeps hk hn hcls λh' v hn' hs=>?_;have tracked:HOk X.prog X.w H h':=λb ob q=>by
  refine(I.hok b ob q).stay (λc w' hc q'=>(hs.2 c ?_).trans q') (λ_ q=>q) λ_ _ q=>q;rintro rfl;rcases hc with rfl|hc
  ·rw[I.free]at q;cases q
  ·rw[I.free]at hc;cases hc
 refine h _ ⟨I.ok,I.os,I.bare,⟨λb o q n hb hx=>?_,λb o q n hb hx=>?_,I.base.free,λb o q hx=>?_,I.base.tups,I.base.frzs,I.base.tbls⟩,⟨_,hn',λj y v' e1 e2 e3=>?_⟩,λy c q=>?_,I.free,I.freeC,λp hp=>?_,tracked,by simpa using I.len⟩;·exact(hs.2 b<|GV<|GC (GF q) I.ok.above).trans (I.base.keep b o q n hb hx)
 ·obtain⟨sl,q1⟩:=I.base.slot b o q n hb hx;exact⟨sl,(hs.2 b<|GV<|GC (GF q) I.ok.above).trans q1⟩
 ·obtain⟨o',q1⟩:=I.base.there b o q hx;exact⟨o',(hs.2 b<|GV<|GC (GF q) I.ok.above).trans q1⟩
 ·by_cases hj:j=i
  ·subst hj;rw[JK hiσ]at e2;cases e2
  ·rw[K1<|HW hj]at e2;obtain⟨u',r',q⟩:=hl j y v' e1 e2 e3;refine⟨u',r',?_⟩;rcases q with⟨k,q⟩|⟨k,c,q,z⟩
   ·refine .inl ⟨k,?_⟩;have:y≠x:=λz=>hj<|kY hN e1<|z▸hi;simp[this,q]
   ·exact .inr ⟨k,c,q,z.sameBut hs<|cne y c q⟩
 ·obtain⟨w',z⟩:=I.cell y c q;exact⟨w',z.sameBut hs<|cne y c q⟩
 ·obtain⟨q,n,ne,nf,d⟩:=I.pin p hp;exact⟨(hs.2 p.1 ne).trans q,n,ne,nf,d⟩
end
def Held(oe:Obj)(C:Addr)(od:Option Addr):Prop:=(oe.cls=.ref C/\oe.dict=od)/\∃vs:Array Gv,oe.data=.fields vs/\vs[2]? =some .none
def Ct(E:XK)(i:Nat)(tb:TS)(ts:Addr->Addr->Option Addr->Obj->TS):TS:=λD Y H=>tb D Y H/\∀(x C:Addr)(od:Option Addr)(oe:Obj)(σ':St)(H':Hp),E (XV x od) (some C) H'->H' x=none->Held oe C od->σ'.length=Y.length->ts x C od oe {nx:=λσ'' H''=>D.nx (σ''.set i none) H'',rt:=D.rt,bk:=λσ'' H''=>D.bk (σ''.set i none) H'',ct:=λσ'' H''=>D.ct (σ''.set i none) H''} (σ'.set i<|some<|.ref x) H'
section
variable{X:Cx}{E:XK}{D:Addr}{bmD:List Gv}{body suite:List Stmt}{b₀:Stmt}{xn n:Str}{i:Nat}{np pos pos':Pos}{tb:TS}{ts:Addr->Addr->Option Addr->Obj->TS}
theorem B4(w:Own X)(hb:∀ps,PSs ((X.pinsX ps).wish (wA (X.pinsX ps) E)) body tb)(hg:Gl X xn)(hm:X.mg xn=some (.ref D))(hD:Xcl X.base D bmD)
  (hcl:∀v C H,E v (some C) H->∃bmC,Xcl X.base C bmC/\(GH C::bmC).contains (.ref D)=true)
  (hN:X.N.Nodup) (hi:X.N[i]? =some n) (hk:X.env.scope.names.lookup n=some .local) (hsu:∀x C od oe,Held oe C od->PSs (X.held x oe) (b₀::suite) (ts x C od oe))
  (hdb:(xn==("__debug__" :Str))=false:=by decide):
  PS X (.Try body [.ExceptHandler (some<|.Name xn np) (some n) (b₀::suite) pos] [] [] pos') (Ct E i tb ts):=by
 intro Z_ s Y H Dn I h;refine wpAny_Try_except<|Iw (hb Z_ [] s Y H Dn (I.pinnedX.wish _) h.1) (λf s1 q=>?_) λv s1 q=>?_
 ·cases f with
  |next=>
   obtain⟨σ1,H1,J,z⟩:=q;exact Lf ⟨σ1,H1,J.unwish.unpinnedX I.ok,z⟩
  |brk=>obtain⟨σ1,H1,J,z⟩:=q;exact⟨σ1,H1,J.unwish.unpinnedX I.ok,z⟩
  |cont=>obtain⟨σ1,H1,J,z⟩:=q;exact⟨σ1,H1,J.unwish.unpinnedX I.ok,z⟩
  |ret u=>obtain⟨v,σ1,H1,J,r,z⟩:=q;exact⟨v,σ1,H1,J.unwish.unpinnedX I.ok,r,z⟩
 ·obtain⟨pins1,σ1,H1,x,C,lim,od,rfl,J0,fl,B0,hsz,hE⟩:=q;have J:Inv X Z_ σ1 H1 s1:=J0.unpinnedX I.ok;have ZY:Big X Z_ lim:=⟨B0.old,B0.loc,B0.cell,λp hp=>B0.pin p<|IK _ hp⟩
  have hfr:X.A.frames=some (X.env::X.outer):=w.1▸I.ok.frames;refine sf (base:=X.base) (H:=H1) (lim:=lim) (C:=C) hfr (w.1▸J.stack) w.2 fl (λb hb=>⟨J.hok.fresh hb,hsz b hb⟩) λh2 g2 fl2=>?_;have J2:Inv X Z_ σ1 H1 {s1 with heap:=h2}:=J.gone w fl ZY (by rw[w.1];exact g2);obtain⟨bmC,hC,hup⟩:=hcl _ _ _ hE;have nl:x≠X.env.locals:=λz=>ZY.loc (by rw[<-z];exact fl.hl);have nf:x∉X.fs:=λz=>by
   obtain⟨_,o,ho,_⟩:=I.ok.funs.mem z;exact ZY.old x o ho (λy=>I.ok.exfs x y z) fl.hl
  have held:∀{s':Gw},Inv X Z_ σ1 H1 s'->Fly s'.heap H1 lim x C od->∃oe,Held oe C od/\s'.heap.get? x=some oe/\Inv (X.held x oe) Z_ σ1 H1 s':=λ{s'}J' f'=>by
   obtain⟨_,_,oe,vs,h1,h2,h3,h4,_⟩:=id f';exact⟨oe,⟨h2,vs,h3,h4⟩,h1,J'.held h1 f'.he nl nf λv z=>by rw[h3]at z;cases z⟩
  obtain⟨oe2,hh2,ge2,K2⟩:=held J2 fl2;refine wpAny_handleBy_cons (codeAny_handlers_test ?_) (by intro q;cases q);refine il K2 hg hm ?_ hdb;refine mv (C:=C) (D:=D) (bmC:=bmC) (bmD:=bmD) (hC.keeps J2.bk) (hD.keeps J2.bk) ge2 hh2.1.1 ?_;rw[hup];refine codeAny_handlers_suite_as ?_;refine wy (base:=X.base) (env:=X.env) (outer:=X.outer) (H:=H1) (lim:=lim) (C:=C) (w.1▸J2.stack) fl2 λh3 g3 fl3=>?_;have J3:Inv X Z_ σ1 H1 {s1 with heap:=h3}:=J2.gone w fl2 ZY (by rw[w.1];exact g3);obtain⟨oe,hh,ge,K3⟩:=held J3 fl3;refine kZ (X:=X.held x oe) (i:=i) (v:=.ref x) K3 hN hi (.inl hk) rfl (λs4 K4=>?_)<|.inr hk;refine Iw (hsu x C od oe hh Z_ s4 _ H1 _ K4 (h.2 x C od oe σ1 H1 hE fl.he hh (by rw[J.len,I.len]))) (λf s5 q=>?_) λ_ _ z=>z.elim;show wpAny _ _ (do bindName X.env n .none;unbindBehindTheSuite X.env n pos) _ _ _;cases f with
  |next=>obtain⟨σ5,H5,K5,z⟩:=q;exact kO (K5.unheld I.ok) hN hi hk λs6 K6=>⟨_,H5,K6,z⟩
  |brk=>obtain⟨σ5,H5,K5,z⟩:=q;exact kO (K5.unheld I.ok) hN hi hk λs6 K6=>⟨_,H5,K6,z⟩
  |cont=>obtain⟨σ5,H5,K5,z⟩:=q;exact kO (K5.unheld I.ok) hN hi hk λs6 K6=>⟨_,H5,K6,z⟩
  |ret u=>obtain⟨v,σ5,H5,K5,r,z⟩:=q;exact kO (K5.unheld I.ok) hN hi hk λs6 K6=>⟨v,_,H5,K6,r,z⟩
end
theorem mw:plainId "proto.unchain"=true:=by decide +kernel
theorem my:entryFor table "proto.unchain"=some MS.«proto.unchain»:=entryFor_of_fast (by kernel_rfl)
def Hdl(A:Hf)(h:Heap):Prop:=∃(x C:Addr)(od:Option Addr)(oe:Obj),A.handled=some (.ref x)/\h.get? x=some oe/\Held oe C od
theorem Hdl.keeps{A:Hf}{h h':Heap}(x:Hdl A h)(k:∀b o C,h.get? b=some o->o.cls=.ref C->h'.get? b=some o):Hdl A h':=by
 obtain⟨a,C,od,oe,h1,h2,h3⟩:=x;exact⟨a,C,od,oe,h1,k a oe C h2 h3.1.1,h3⟩
section
variable{prog:GQ}{w:Ha}{A:Hf}{E:Gv->Gw->Prop}{s:Gw}
theorem mC{O:Type}{a:Addr}{oa:Obj}{vs:Array Gv}{T:String}{Q:O->Gw->Prop}(hh:Hdl A s.heap)(ha:s.heap.get? a=some oa)(hc:oa.cls=.type T)(hd:oa.data=.fields vs)(h2:2<vs.size)
  (h:∀h',h'.get? a=some (HJ (·.setIfInBounds 2 (A.handled.getD .none)) oa)->GW a s.heap h'->E (.ref a) {s with heap:=h'}):wpAny (model prog w) A (raiseNew (.ref a):Sem O) Q E s:=by
 obtain⟨x,C,od,oe,e1,e2,⟨e3,_⟩,us,e4,e5⟩:=hh;have ne:x≠a:=λz=>by
  rw[z,ha]at e2;rw[Hl e2,e3]at hc;cases hc
 unfold raiseNew;refine Gn<|N0 ?_;rw[e1];show wpAny _ _ (if(GH x != GH a)=true then _ else _) _ _ _;rw[Z1<|bne_iff_ne.mpr λz=>ne<|Pb z];refine Gn<|Ip<|wpAny_runValue<|codeAny_builtin my ?_;rw[Around.under_plainId mw _];unfold MS.«proto.unchain»;refine Gn<|He e2 e4 e5 ?_;rw[Z1 ⋯];refine Gn<|Gy ?_;refine Gy ?_;refine Gn<|IH ha hd h2<|NZ ?_;refine h _ ?_<|Jd ..;rw[e1];exact HS _ ha<|IZ<|Im hd _
theorem n9{O:Type}{Q:O->Gw->Prop}(hh:Hdl A s.heap)
  (h:∀a h',({s with heap:=h'}:Gw).TypeIs (.ref a) "StopIteration"->s.heap.get? a=none->(∀b o,s.heap.get? b=some o->h'.get? b=some o)->E (.ref a) {s with heap:=h'}):
  wpAny (model prog w) A (do let e <-newExc (.type "StopIteration") [];raiseNew e:Sem O) Q E s:=by
 refine Gn ?_;simp only[newExc,newTuple];refine Gn (IE ?_ (by size_fits));refine Gn (m:=firstArgMember _ _) (NY (a:=Hg) (by first|rfl|(simp only[firstArgMember];rfl)) ?_);refine IE ?_ (by size_fits);generalize hg:s.heap.push _=h1;have k1:∀b o,s.heap.get? b=some o->h1.get? b=some o:=λb o q=>by rw[<-hg];exact Gu _ q
 have z1:s.heap.objs.size<=h1.objs.size:=by rw[<-hg,Hz];exact MJ _
 refine mC (T:="StopIteration") (hh.keeps λb o C q _=>Gu _<|k1 b o q) (GA _ rfl) rfl rfl (by simp[ownMembersOf]) λh' e1 hs=>?_;refine h _ _ ⟨_,e1,by rw[LQ]⟩ (L6 z1) λb o q=>(hs.2 b λz=>?_).trans (Gu _<|k1 b o q);exact absurd (GF<|k1 b o q) (by rw[z];exact Hx _)
theorem mD{it l:Addr}{i:Nat}{items:Array Gv}{Q:Option Gv->Gw->Prop}(hh:Hdl A s.heap)(hit:s.heap.IsListIter it l i)(hl:s.heap.IsList l items)(hx:items[i]? =none)
  (hQ:∀h',Jk it s.heap h'->Q none {s with heap:=h'}):wpAny (model prog w) A (pyNext<|.ref it) Q E s:=by
 obtain⟨o,ho,hc,hd⟩:=id hit;obtain⟨ol,hol,_,nl,hdl⟩:=hl;unfold pyNext;refine Gn<|J5<|HC (name:=Gq "__next__") hit.typeIs Nf<|HK Nf hit.typeIs entry_listiter_next ?_<|args_listiter_next _;show wpAny _ _ (field (.ref it) 0>>=_) _ _ s;refine Gn<|He ho hd (x:=.ref l) rfl ?_;show wpAny _ _ (if(GH l==Hg)=true then _ else _) _ _ s;rw[Z2 (show ¬((GH l==Hg)=true)from GN)];show wpAny _ _ (field (.ref it) 1>>=_) _ _ s;refine Gn<|He ho hd (x:=.int i 0) rfl ?_;show wpAny _ _ (seqItems? (.ref l)>>=_) _ _ s;refine Gn<|HA hol hdl ?_;simp only[IF,hx];refine Gn (KQ (Gn (IH ho hd (by simp) ?_)));refine n9 (A:=A.in1) ?_ λa h' tp nw hk=>?_
 ·exact Hdl.keeps (A:=A.in1) hh λb ob C q z=>(Hn _ _ λy=>by
   rw[<-y,ho]at q;rw[<-Hl q,hc]at z;cases z).trans q
 ·refine Gn<|J4 (T:="StopIteration") (b:=true) tp Jn ?_;exact Gy<|hQ _ λb ob hb q=>hk b ob<|(Hn _ _<|HW hb).trans q
theorem lO{it l:Addr}{i:Nat}{items:Array Gv}{Q:Option Gv->Gw->Prop}(hh:Hdl A s.heap)(hit:IsTupIter s.heap it l i)(hl:Qb s.heap l items)(hx:items[i]? =none)
  (hQ:∀h',Jk it s.heap h'->Q none {s with heap:=h'}):wpAny (model prog w) A (pyNext<|.ref it) Q E s:=by
 obtain⟨o,ho,hc,hd⟩:=id hit;obtain⟨ol,hol,_,nl,hdl⟩:=hl;unfold pyNext;refine Gn<|J5<|HC (name:=Gq "__next__") hit.typeIs MY<|HK MY hit.typeIs entry_tupleiter_next ?_<|args_tupleiter_next _;show wpAny _ _ (field (.ref it) 0>>=_) _ _ s;refine Gn<|He ho hd (x:=.ref l) rfl ?_;show wpAny _ _ (if(GH l==Hg)=true then _ else _) _ _ s;rw[Z2 (show ¬((GH l==Hg)=true)from GN)];show wpAny _ _ (field (.ref it) 1>>=_) _ _ s;refine Gn<|He ho hd (x:=.int i 0) rfl ?_;show wpAny _ _ (seqItems? (.ref l)>>=_) _ _ s;refine Gn<|HA hol hdl ?_;simp only[IF,hx];refine Gn (KQ (Gn (IH ho hd (by simp) ?_)));refine n9 (A:=A.in1) ?_ λa h' tp nw hk=>?_
 ·exact Hdl.keeps (A:=A.in1) hh λb ob C q z=>(Hn _ _ λy=>by
   rw[<-y,ho]at q;rw[<-Hl q,hc]at z;cases z).trans q
 ·refine Gn<|J4 (T:="StopIteration") (b:=true) tp Jn ?_;exact Gy<|hQ _ λb ob hb q=>hk b ob<|(Hn _ _<|HW hb).trans q
theorem pK{t:Addr}{items:Array Gv}{Q:List Gv->Gw->Prop}(hh:Hdl A s.heap)(ht:Qb s.heap t items)
  (hQ:∀h',Jk s.heap.objs.size s.heap h'->Q items.toList {s with heap:=h'}):wpAny (model prog w) A (unpackItems (.ref t) items.size none) Q E s:=by
 have hlt:t≠s.heap.objs.size:=by obtain⟨o,ho,_⟩:=ht;exact GV<|GF ho
 unfold unpackItems;refine Gn ?_;unfold notIterableAtAll;refine Gn<|Oa ht.typeIs slot_tuple_iter.lookup<|Gy ?_;simp only[HY,if_false];refine Gn<|Ip<|iter_tuple ht ?_;refine Gn (Ip (draw_tuple hlt items.size 0 _ _ ⟨_,GA _ rfl,rfl,rfl⟩ (ht.push _) (by omega) λh1 hit1 hs1=>?_));rw[show Ql items.size (List.drop 0 items.toList)=items.toList by rw[Ov];exact Kz (by simp),Z2 (by simp)];have kp:∀b o,s.heap.get? b=some o->h1.get? b=some o:=λb o q=>(hs1.2 b<|GV<|GF q).trans (Gu _ q);refine Gn (Ip (lO (hh.keeps λb o C q _=>kp b o q) hit1 ((ht.push _).extBut hs1.extBut hlt) (by simp) λh2 he2=>?_));simp only[Option.isSome_none,HY,if_false];exact Gy<|hQ h2 λb o hb q=>he2 b o hb<|kp b o q
theorem jo{env:Env}{Z5:List Expr}{x1}{pos:Pos}{t:Addr}{items:Array Gv}{Q:Unit->Gw->Prop}(hh:Hdl A s.heap)(ht:Qb s.heap t items)
  (hn:(assignEach Z5 env).length=items.size) (hstar:(assignEach Z5 env).findIdx? (·.1)=none)
  (h:∀h',Jk s.heap.objs.size s.heap h'->wpAny (model prog w) A (assignInOrder ((assignEach Z5 env).map (·.2)) items.toList) Q E {s with heap:=h'}):
  wpAny (model prog w) A (assign (.Tuple Z5 x1 pos) env<|.ref t) Q E s:=by
 rw[assign_Tuple];refine Gn<|LZ ?_;unfold unpack;rw[hn,hstar];exact Gn<|Ip<|pK hh ht h
end
def HdX(X:Cx):Prop:=∃(x C:Addr)(od:Option Addr)(oe:Obj),X.A.handled=some (.ref x)/\Held oe C od/\X.s₀.heap.get? x=some oe/\X.H₀ x=none/\x∉X.fs/\x∉X.ex
section
variable{X:Cx}{Z_:List (Addr×Obj)}{Y:St}{H:Hp}{s:Gw}
theorem Inv.hdl(I:Inv X Z_ Y H s)(x:HdX X):Hdl X.A s.heap:=by
 obtain⟨a,C,od,oe,h1,h2,h3,h4,h5,h6⟩:=x;exact⟨a,C,od,oe,h1,I.base.keep a oe h3 h4 h5 h6,h2⟩
theorem HdX.comp{scope:JH}{N:List Str}{C:Addr}{fp:List Addr}(x:HdX X)(I:Inv X Z_ Y H s)(f:∀b∈fp,FpOk X Z_ H b):HdX (bD X scope N s H C fp):=by
 obtain⟨a,C',od,oe,h1,h2,h3,h4,h5,h6⟩:=x;refine⟨a,C',od,oe,h1,h2,I.base.keep a oe h3 h4 h5 h6,I.base.free a oe h3 h4 h6,λm=>?_,λm=>?_⟩
 ·rcases GK.mp (I.stkSub a m)with z | z
  ·have:=GF h3;rw[z]at this;exact absurd (GC this I.ok.above)<|Hx _
  ·exact h5 z
 ·rcases (f a m).2.2.2.1 with z | z;·exact h6 z
  ·exact absurd (GC (GF h3) z)<|Hx _
end
structure TurnH(P:GQ)(w:Ha)(K:Gp)(A:Hf)(tg:Expr)(J:It)(fp:List Addr)(it:Addr)(tn:Nat->Heap->Prop):Prop where
 obj:∀i h,tn i h->∀b∈fp,∃o,h.get? b=some o/\∀v,o.data≠.cell v
 keep:∀i h h',tn i h->(∀b∈fp,∀o,h.get? b=some o->h'.get? b=some o)->tn i h'
 item:∀(X:Cx),X.prog=P->X.w=w->X.K=K->X.A=A->HdX X->∀(i:Nat)(Z_:List (Addr×Obj))(s:Gw)(Y:St)(H:Hp)(E:Gv->Gw->Prop),Inv X Z_ Y H s->(∀b∈fp,FpOk X Z_ H b)->tn i s.heap->J.go i H->
  wpAny (model P w) X.A (pyNext<|.ref it) (λr s1=>∃u,r=some u/\
   wpAny (model P w) X.A (letOwnedTupleGo tg (.ref it) u) (λ_ s2=>∃x H',Inv X Z_ Y H' s2/\RelV x u/\J.yld i H x H'/\tn (i+1) s2.heap/\∀b∈fp,H' b=none) E s1) E s
 done:∀(X:Cx),X.prog=P->X.w=w->X.K=K->X.A=A->HdX X->∀(i:Nat)(Z_:List (Addr×Obj))(s:Gw)(Y:St)(H:Hp)(E:Gv->Gw->Prop),Inv X Z_ Y H s->(∀b∈fp,FpOk X Z_ H b)->tn i s.heap->J.stop i H->
  wpAny (model P w) X.A (pyNext<|.ref it) (λr s1=>r=none/\Inv X Z_ Y H s1) E s
 self:∀(A:Hf)(i:Nat)(s:Gw)(Q:Gv->Gw->Prop)(E:Gv->Gw->Prop),tn i s.heap->Q (.ref it) s->wpAny (model P w) A (pyIter<|.ref it) Q E s
theorem qR{P:GQ}{w:Ha}{K:Gp}{A:Hf}{tg:Expr}(a it:Addr):TurnH P w K A tg (Es K a) [it] it (λi h=>h.IsListIter it a i) where
 obj:=(ip (P:=P) (w:=w) (K:=K) (tg:=tg) a it).obj
 keep:=(ip (P:=P) (w:=w) (K:=K) (tg:=tg) a it).keep
 self:=(ip (P:=P) (w:=w) (K:=K) (tg:=tg) a it).self
 item:=by
  intro X hP hw hK hA hx i Z_ s Y H E I hf st hg;subst hP hw hK hA;obtain⟨xs,x,hq,hx⟩:=hg;obtain⟨its,rv,p,hz⟩:=I.list hq;obtain⟨u,hu,ru⟩:=rv.get hx;obtain⟨f0,f1,f2,f3,f4,f5⟩:=hf it (by simp);refine Mc st p.isList (x:=u) (by simpa using hu) λh' st' sb=>?_;have I1:Inv X Z_ Y H {s with heap:=h'}:=I.turned (t':=s.toks) (λb o hb e=>(sb.2 b hb).trans e) f0 f1 f3 f4 f5;obtain⟨o,e,c,d⟩:=id st';exact⟨u,rfl,oO (s:={s with heap:=h'}) e c d ⋯ ⟨x,H,I1,ru,⟨rfl,λys hy=>by rw[I.list_inj hy hq];exact hx⟩,st',λb hb=>(hf b hb).1⟩⟩
 done:=by
  intro X hP hw hK hA hx i Z_ s Y H E I hf st hg;subst hP hw hK hA;obtain⟨xs,hq,hl'⟩:=hg;obtain⟨its,rv,p,hz⟩:=I.list hq;obtain⟨f0,f1,f2,f3,f4,f5⟩:=hf it (by simp);have hl:=rv.length;exact mD (I.hdl hx) st p.isList (by simp;omega) λh' eb=>⟨rfl,I.turned (t':=s.toks) (λb o hb e=>eb b o hb e) f0 f1 f3 f4 f5⟩
def ET(X:Cx)(tg Z3:Expr)(wi:TI):Prop:=
 ∀(Z_:List (Addr×Obj))(s:Gw)(Y:St)(H:Hp)(R:It->Hp->Prop),Inv X Z_ Y H s->wi Y H R->
  wpAny (model X.prog X.w) X.A (eval Z3 X.env) (λv s1=>wpAny (model X.prog X.w) X.A (pyIter v) (λitv s2=>∃(it:Addr)(fp:List Addr)(tn:Nat->Heap->Prop)(J:It)(H':Hp),itv=.ref it/\Inv X Z_ Y H' s2/\TurnH X.prog X.w X.K X.A tg J fp it tn/\tn 0 s2.heap/\(∀b∈fp,FpOk X Z_ H' b)/\R J H') X.xe s1) X.xe s
section
variable{X:Cx}{tg:Expr}{K:Gp}
theorem wB{l:Expr}{tl:TE}(hK:X.K=K)(hl:PE X l tl):ET X tg l (oP K tl):=by
 subst hK;intro Z_ s Y H R I h;refine cG (hl Z_ s Y H _ I h) λv s1 zz=>?_;obtain⟨x,H1,I1,r1,q1⟩:=zz;obtain⟨a,e,⟨xs,hq⟩,q⟩:=q1;subst e;cases r1;obtain⟨its,rv,p,hz⟩:=I1.list hq;refine JY p.isList ?_;refine⟨s1.heap.objs.size,[s1.heap.objs.size],_,_,H1,rfl,I1.kept (t':=s1.toks) λb o e=>Gu _ e,qR a _,⟨_,GA _ rfl,rfl,rfl⟩,λb hb=>?_,q⟩;have e:b=s1.heap.objs.size:=by simpa using hb
 subst e;exact I1.fpOk (GO _)<|I1.hok.fresh<|GO _
theorem yY{pos:Pos}{es:List Expr}{k:Nat}{t:yr}{n:Nat}(hK:X.K=K)(hx:HdX X)(h:BB X es t)
  (hn:(assignEach es X.env).length=n:=by rfl) (hst:(assignEach es X.env).findIdx? (·.1)=none:=by rfl):PG X (.Tuple es k pos) (d6 K n t):=by
 subst hK;intro Z_ s Y H v u Q I r hw;obtain⟨a,xs,e1,hq,hl,hw⟩:=hw;subst e1;cases r;obtain⟨its,rv,ht,hz⟩:=I.tuple hq;refine jo (I.hdl hx) ht (by simp[hn,<-hl,rv.length]) hst λh' hx=>?_;have I1:Inv X Z_ Y H {s with heap:=h'}:=I.kept (t':=s.toks) λb o e=>hx b o (GV<|GF e) e;exact h Z_ _ Y H xs _ Q I1 (by simpa using rv) hw
end
section
variable{X:Cx}{scope:JH}{N:List Str}{cap:List (Option Nat)}{tg Z3 Z4:Expr}{ifs:List Expr}{pos:Pos}{wi:TI}{g:TG}{tf:TT}{te:TE}
theorem TurnH.x{Z_:List (Addr×Obj)}{Y:St}{fp:List Addr}{it:Addr}{tn:Nat->Heap->Prop}{J:It}{s2:Gw}{H2:Hp}(T:TurnH X.prog X.w X.K X.A tg J fp it tn)(hx:HdX X)(I2:Inv X Z_ Y H2 s2)(f2:∀b∈fp,FpOk X Z_ H2 b)(hg:∀s H C fp,HdX (bD X scope N s H C fp)->PG (bD X scope N s H C fp) tg g)(C:Addr):TurnX (bD X scope N s2 H2 C fp) tg g J fp it tn:=⟨T.obj,T.keep,T.self,T.item _ rfl rfl rfl rfl<|hx.comp I2 f2,T.done _ rfl rfl rfl rfl<|hx.comp I2 f2,hg _ _ _ _<|hx.comp I2 f2⟩
theorem wD(S:CompScope X scope N cap)(hx:HdX X)(hi:ET X tg Z3 wi)
  (hg:∀s H C fp,HdX (bD X scope N s H C fp)->PG (bD X scope N s H C fp) tg g) (hf:∀s H C fp,BD (bD X scope N s H C fp) ifs tf) (he:∀s H C fp,PE (bD X scope N s H C fp) Z4 te)
  (hs:∀x,foldedSetIterable Z3 X.env x=pure x:=by intro _;rfl):PE X (.ListComp Z4 [⟨tg,Z3,ifs,0⟩] scope pos) (lA cap wi g tf te):=by
 intro Z_ s Y H Q I h;rw[P8];have frc:∀x∈scope.names,x.2=.free->∃c,X.env.cells.lookup x.1=some c:=λx hx hk=>I.ok.has x.1<|S.free x hx hk;refine Ke (use:=none) rfl hs (gb frc) S.kind (iV S)<|cG (hi Z_ s Y H _ I h) λv s1 h1=>cG h1 λitv s2 h2=>?_;obtain⟨it,fp,tn,J,H2,rfl,I2,T,st2,f2,W,w0,turn⟩:=h2;refine iU (RR:=λacc C=>compPost (model X.prog X.w) X.A X.xe none (EP X Z_ Y Q) acc C) S hf he I2 (T.x hx I2 f2 hg) st2 f2 w0 turn λD C σ' H' s' its k ys hD hC hDC I' rv hl q=>?_;obtain⟨m,hn,_⟩:=I'.loc;exact⟨m,hn,λh' hs'=>⟨.ref D,_,lB I2 f2 hD hC hDC I' rv hl hs',rfl,q⟩⟩
end
end L2
namespace L2
open PySem PySem.Spec PySem.Calls PyProof.Rows
open PySem.W (findIn findObj mroIn looks_findIn looks_find looks_mroIn class_get KitX clsIn Frag)
structure XK1(K:Frag)(C:Addr):Prop where
 ga:findIn K (.ref C) "__getattribute__"=some (some<|.builtin "BaseException.__getattribute__")
 gt:findIn K (.ref C) "__getattr__"=some none
 cl:∀od,findObj K C od "__class__"=some (.bind (.builtin "getset_descriptor.__get__")<|.builtin "object.__class__")
 ob:mroIn K C (.type "object")=some true
 be:mroIn K C (.type "BaseException")=some true
section
variable{prog:GQ}{w:Ha}{A:Hf}{E:Gv->Gw->Prop}{s:Gw}{K:Frag}{x C:Addr}{ox:Obj}{od:Option Obj}
theorem uj{Q:Option Gv->Gw->Prop}(Z:XK1 K C)(X:K.In s.heap)(I:Kv s.heap x ox C od)(h:Q (some<|.ref C) {s with toks:=s.toks+1}):wpAny (model prog w) A (getAttr? (.ref x) "__class__") Q E s:=by
 obtain⟨hh,g,d,t,os⟩:=s;have L0:=I.type (M:=model prog w);have L1:=Lu (M:=model prog w) X Z.ga;have L2:=Lu (M:=model prog w) X Z.gt;have L3:=looks_find (M:=model prog w) X I<|Z.cl od;have L4:=looks_mroIn (M:=model prog w) X Z.be;unfold getAttr? getAttrBy? getAttrBy;refine Gn<|wpAny_mkText<|Gn<|J5<|Ip<|Gn<|L0.at<|Gn<|L1.at ?_;dsimp only;rw[show(Pc "BaseException.__getattribute__"==Pc "object.__getattribute__")=false from by decide +kernel,Ot,Z2 ⋯];unfold getAttrByItsOwn hookBefore;rw[Z1 (show onTheHeap (GH C)=true from rfl)];refine Gn<|L2.at ?_;refine Gn<|J5<|Ip ?_;unfold callGetattribute;rw[Z2 (by simp)];unfold boundAndCalled;rw[LA.ga.bind];have LI:PySem.W.Looks (model prog w) hh (isInstance (.ref x)<|.type "BaseException") true:=L0.andThen L4;have chk:∀{A':Hf}{E':Gv->Gw->Prop}{Q':Unit->Gw->Prop}{tk:Nat},Q' () ⟨hh,g,d,tk,os⟩->wpAny (model prog w) A' (checkBuiltinCall "BaseException.__getattribute__" ⟨[.ref x,.str "__class__" t],[]⟩) Q' E' ⟨hh,g,d,tk,os⟩:=λ{A' E' Q' tk}hq=>by
  have hk:builtinKind "BaseException.__getattribute__"=some .slot:=by decide +kernel
  have hsplit:splitId "BaseException.__getattribute__"=some ("BaseException","__getattribute__"):=by decide +kernel
  have ha:=F.args_bexc_ga (.ref x)<|.str "__class__" t;simp only[checkBuiltinCall,hk,hsplit];refine Gn<|LI.at ?_
  repeat wp_step
  exact hq
 refine Gn<|Gy<|Md<|codeAny_call_builtin LA.ga.plain F.entry_bexc_ga<|chk ?_;refine Gn (m:=slotArgs _ _ _)<|Gy ?_;refine Gn<|Gy<|Gn<|L0.at<|Gn<|L3.at ?_;show wpAny _ _ (holding [.builtin "object.__class__"] (call (.builtin "getset_descriptor.__get__") [.builtin "object.__class__",.ref x,.ref C])>>=ret) _ _ _;refine Gn<|Ip<|Md<|class_get (s:=⟨hh,g,d,t+1,os⟩) (ox:=ox) (od:=od) X I Z.ob<|Gy ?_;exact PySem.W.handed_on rfl<|Gy h
theorem wF(Z:XK1 K C):KitX K (.ref x) (.ref C) (λh=>Kv h x ox C od) where
 ty:=λ_ _ _ I=>I.type
 it:=λ_ _ X _=>by
  obtain⟨cd,a,_⟩:=IQ.mp Z.ob;unfold clsIn at a;split at a
  ·rename_i c' d' cd' sl' ho;intro A' Q' E' s' k q;unfold isType loadHead;exact Gn<|Oj (k _ _<|X _ _ ho)<|Gy q
  ·cases a
 ne:=λh tp dd its n sl X htp=>by
  obtain⟨cd,a,_⟩:=IQ.mp Z.ob;refine Bool.eq_false_iff.mpr λq=>?_;have e:C=tp:=Pb<|beq_iff_eq.mp q;subst e;unfold clsIn at a;split at a
  ·rename_i c' d' cd' sl' ho;have z:=(X _ _ ho).symm.trans htp;cases z
  ·cases a
 ca:=λX I k=>uj Z X I k
theorem qS{c:Gv}{b:Bool}{Q:Gv->Gw->Prop}(Z:XK1 K C)(X:K.In s.heap)(I:Kv s.heap x ox C od)(e:Hh K (.ref C) c=some b)(h:∀tk,Q (.bool b) {s with toks:=tk}):
  wpAny (model prog w) A (call (.builtin "isinstance") [.ref x,c]) Q E s:=Ia (wF Z) X I e (λz=>by cases z) h
end
end L2
namespace L2
open PySem PySem.Spec PySem.Calls PyProof.Rows
def HdE(X:Cx)(x C:Addr):Prop:=∃(oe:Obj)(od:Option Addr),(∀d,od=some d->∃o u,X.H₀ d=some (.frz o u))/\X.A.handled=some (.ref x)/\Held oe C od/\X.s₀.heap.get? x=some oe/\X.H₀ x=none/\x∉X.fs/\x∉X.ex
theorem HdE.hdx{X:Cx}{x C:Addr}(h:HdE X x C):HdX X:=let ⟨oe,od,_,z⟩:=h;⟨x,C,od,oe,z⟩
theorem Inv.inst{X:Cx}{Z_:List (Addr×Obj)}{Y:St}{H:Hp}{s:Gw}{x C:Addr}(I:Inv X Z_ Y H s)(h:HdE X x C):∃ox od,Kv s.heap x ox C od:=by
 obtain⟨oe,od,hf,h1,⟨⟨h2,h2'⟩,vs,h7,h8⟩,h3,h4,h5,h6⟩:=h;have nc:Oz oe=true:=by unfold Oz;rw[h7]
 have hk:=I.base.keep x oe h3 h4 h5 h6;cases od with
 |none=>exact⟨oe,none,hk,h2,nc,by rw[h2'];trivial⟩
 |some d=>
  obtain⟨o,u,z⟩:=hf d rfl;have:=I.hok d _<|I.base.frzs d o u z;exact⟨oe,some o,hk,h2,nc,by rw[h2'];exact this.1⟩
def kv:V->Option Gv
 | .ref D=>some<|.ref D
 | .ty T=>some<|.type T
 |_=>none
section
variable{X:Cx}{K:Gp}{x C:Addr}
theorem bu(hK:X.K=K)(h:HdE X x C)(Z:XK1 K C):ei X (.builtin "isinstance") (λxs H Q=>∃v c b,xs=[.ref x,v]/\kv v=some c/\Hh K (.ref C) c=some b/\Q (.bl b) H):=by
 subst hK;intro Z_ s Y H xs us Q I r q;obtain⟨v,c,b,rfl,hv,e,q⟩:=q;obtain⟨u,w',rfl,rx,rv⟩:=oR r;obtain rfl:u=.ref x:=rx;have hw:w'=c:=by
  unfold kv at hv;split at hv;·cases hv;exact rv
  ·cases hv;exact rv
  ·cases hv
 subst hw;obtain⟨ox,od,J⟩:=I.inst h;exact qS Z I.kIn J e λtk=>⟨.bl b,H,I.tok _,rfl,q⟩
end
structure RoomH(k:Nat)(A:Hf):Prop where
 dp:A.depth+3*k+5<recursionLimit
 un:A.units+16*k+200<cLine
theorem Room.h{k:Nat}{A:Hf}(r:Room k A)(v:Option Gv):RoomH k (A.mark v):=⟨r.dp,r.un⟩
abbrev Cu(P:GQ)(w:Ha)(K:Gp)(mg:Str->Option Gv)(base:Heap)(N:List Str)(Z6:Str)(scope:JH)(f:Addr)(cd:Gv)(A:Hf)(outer:List Env)(s0:Gw)(H0:Hp)(E:XK):Cx:={lg CX0 P w K mg base N Z6 scope f cd A outer s0 H0 E with calm:=false,xe:=λ_ _=>False}
structure FnOkH(P:GQ)(w:Ha)(K:Gp)(mg:Str->Option Gv)(base:Heap)(k:Nat)(f:Addr)(fd:GJ)(ps:List Str)(sp:Addr->Addr->Sp):Prop where
 len:∀x C vs H Q E,sp x C vs H Q E->vs.length=ps.length
 run:∀(x C:Addr)(od:Option Addr)(oe:Obj)(A:Hf)(outer:List Env)(s:Gw)(H:Hp)(args:Args)(us:List Gv)(vs:List V)(Q:VK)(E:XK),RoomH k A->A.handled=some (.ref x)->Held oe C od->(∀d,od=some d->∃o u,H d=some (.frz o u))->s.heap.get? x=some oe->H x=none->x∉frs outer->
  Env0 P w K mg base A outer s H->MR s fd args (ps.zip us)->Vals vs us->sp x C vs H Q E->codeAny (model P w) A (.call (.ref f) args) (CR CX0 outer P w H s Q E) s
section
variable{P:GQ}{w:Ha}{K:Gp}{mg:Str->Option Gv}{base:Heap}
theorem Fun.okH{x0 Z6:Str}{st:Stmt}{f:Addr}{fd:GJ}{N ps:List Str}{k:Nat}{sp:Addr->Addr->Sp}(F:Fun K x0 Z6 st f fd)(S:FnScope N ps (defScope st))(len:∀x C vs H Q E,sp x C vs H Q E->vs.length=ps.length)
  (hbody:∀(x C:Addr) (Z9:Gv) (A:Hf) (outer:List Env) (s:Gw) (H:Hp) (vs:List V) (Q:VK) (E:XK),HdE (Cu P w K mg base N Z6 (defScope st) f Z9 A outer s H E) x C->RoomH k (A.deeper<|envOfC Z6 (defScope st) s.heap.objs.size f Z9)->sp x C vs H Q E->
   ∃t,PSs (Cu P w K mg base N Z6 (defScope st) f Z9 A outer s H E) (defBody st) t/\t {nx:=λ_ H'=>Q .non H',rt:=Q} (start N vs) H):FnOkH P w K mg base (k+1) f fd ps sp:=by
 obtain⟨oc,od,kV,doc,pm,an,Z9,ct,osl,rfl,lk,hcd⟩:=F.ex;refine⟨len,λx C od oe A outer s H args us vs Q E hr hA hh hfz hx hHx hxo e0 hb r hsp=>?_⟩;have hl:=len _ _ _ _ _ _ hsp;have KX:K.In s.heap:=e0.mod.kin.keeps λb o e=>(e0.bs b o e).1;have lim:s.heap.NoLimit:=e0.mod.nolimit.keeps λb o e=>(e0.bs b o e).1;have hkind:∀y∈ps.zip us,(defScope st).names.lookup y.1=some .local\/((defScope st).names.lookup y.1=some .cell/\((cellsFrom (s.heap.objs.size+1) (defScope st).names []).lookup y.1).isSome=true):=λ⟨n,v⟩hy=>by
  rcases S.par n (Iq hy).1 with q|q;·exact .inl q
  ·exact .inr ⟨q,JM _ _ _<|.inl q⟩
 refine My (by have:=hr.dp;omega) (KX _ _ lk) rfl S.co S.gen rfl (N7 KX hcd)<|hb _ _ _ _ ?_;refine Lw S.kind hkind λenv he s1 z=>?_;subst he;refine⟨lim.keeps z.toInCall.keep,codeAny_func ?_⟩;have hE:HdE (Cu P w K mg base N Z6 (defScope st) f Z9 A outer s H E) x C:=⟨oe,od,hfz,hA,hh,hx,hHx,hxo,λm=>absurd (show x∈([]:List Addr)from m) (by simp)⟩
 obtain⟨t,ht,hq⟩:=hbody x C Z9 A outer s H vs Q E hE ⟨by have:=hr.dp;show A.depth+1+3*k+5<_;omega,by have:=hr.un;show A.units+3+16*k+200<_;omega⟩ hsp;have e0':Env0 P w K mg base {A with handled:=none} outer s H:=⟨e0.frames,e0.mod,e0.bs,e0.bsz,e0.funs,e0.frf,e0.hok,e0.bare⟩
 have I0:Inv (lg CX0 P w K mg base N Z6 (defScope st) f Z9 {A with handled:=none} outer s H E) [] (start N vs) H s1:=mR S rfl e0' hl r z;have I:Inv (Cu P w K mg base N Z6 (defScope st) f Z9 A outer s H E) [] (start N vs) H s1:=
  ⟨⟨I0.ok.mod,I0.ok.kind,I0.ok.glob,I0.ok.blt,I0.ok.above,I0.ok.inj,I0.ok.has,I0.ok.cab,λz=>(nomatch z),MK e0.frames,I0.ok.stk,I0.ok.exf,I0.ok.bs,I0.ok.bsz,I0.ok.noex,I0.ok.exfs,I0.ok.funs,I0.ok.frf⟩,I0.os,I0.bare,I0.base,I0.loc,I0.cell,I0.free,I0.freeC,I0.pin,I0.hok,I0.len⟩
 refine Iw (ht [] s1 (start N vs) H _ I hq) (λfl s' hs=>?_) λe s' hs=>hs.elim;have fin:∀{σ':St}{H':Hp}{v:V}{u:Gv},Inv (Cu P w K mg base N Z6 (defScope st) f Z9 A outer s H E) [] σ' H' s'->RelV v u->Q v H'->CE outer P w H s Q u s':=
  λ{σ' H' v u}J rv q=>⟨v,H',J.os,J.bare,J.base,J.hok,rv,q⟩
 cases fl with
 |ret u=>obtain⟨v,σ',H',J,rv,q⟩:=hs;exact fin J rv q
 |next=>obtain⟨σ',H',J,q⟩:=hs;exact fin (v:=V.non) (u:=Hg) J rfl q
 |brk=>obtain⟨_,_,_,q⟩:=hs;exact Ik q
 |cont=>obtain⟨_,_,_,q⟩:=hs;exact Ik q
end
def BG(od:Option Addr)(sp:Sp):Sp:=λvs H Q E=>(∀d,od=some d->∃o u,H d=some (.frz o u))/\sp vs H Q E
section
variable{X:Cx}{k:Nat}{f x C:Addr}{od:Option Addr}{oe:Obj}{fd:GJ}{ps:List Str}{sp:Addr->Addr->Sp}{xn:Str}{p pos:Pos}{e:Expr}{es:List Expr}{t:TA}
theorem wG(F:FnOkH X.prog X.w X.K X.mg X.base k f fd ps sp)(hr:RoomH k X.A)(hA:X.A.handled=some (.ref x))(hh:Held oe C od)(hp:(x,oe)∈X.pn)(hg:Gl X xn)(hm:X.mg xn=some (.ref f))(hk:I9 X.K (.ref f)=true)(hb:Binds X.K fd ps [])
  (ha:PA X (e::es) t) (hdb:(xn==("__debug__" :Str))=false:=by decide) (he:starEach (e::es) X.env=(false,eval e X.env)::starEach es X.env:=by rfl) (hpl:(backTo pos<|starEach es X.env).any (·.1)=false:=by rfl):
  PE X (.Call (.Name xn p) (e::es) [] pos) (aU (BG od<|sp x C) [] E0 t):=by
 intro Z_ s Y H Q I h;refine JL<|il I hg hm ?_ hdb;refine Kl (h₀:=X.base) I.ok.mod.kin hk (cG (ha pos Z_ s Y H _ I h) λus s1⟨vs,H1,I1,r,q⟩=>⟨I1.kIn,?_⟩) he hpl;obtain⟨g1,g2,g3,g4,_⟩:=I1.pin (x,oe)<|IK _ hp;have hfr:x∉frs X.stack:=λm=>by
  rcases GK.mp (I1.stkSub x m)with z|z;·exact g3 z
  ·exact g4 z
 have q:BG od (sp x C) (vs++[]) H1 Q E0:=q;rw[Hw]at q;obtain⟨hfz,q⟩:=q;rw[Kh];have hl:us.length=ps.length:=by rw[<-r.length];exact F.len _ _ _ _ _ _ q
 refine Md (Lo (F.run x C od oe X.A X.stack s1 H1 ⟨us,[]⟩ us vs Q E0 hr hA hh hfz g1 g2 hfr I1.env0 (by have:=hb s1 us I1.kIn (by simpa using hl);simpa using this) r q) λr s' hq=>?_);cases r with
 |error e=>exact hq.elim
 |ok fl=>
  cases fl with
  |ret u=>exact I1.after hq
  |next=>exact Ik hq
  |brk=>exact Ik hq
  |cont=>exact Ik hq
end
end L2
namespace L2
open PySem PySem.Spec PySem.Calls PyProof.Rows Mi
section
variable{P:GQ}{w:Ha}{K:Gp}{mg:Str->Option Gv}{base:Heap}
theorem Fun.okR{x Z6:Str}{st:Stmt}{f:Addr}{fd:GJ}{N ps:List Str}{k:Nat}{sp:Sp}(F:Fun K x Z6 st f fd)(S:FnScope N ps (defScope st))(len:∀vs H Q E,sp vs H Q E->vs.length=ps.length)
  (hbody:∀(Z9:Gv) (A:Hf) (outer:List Env) (s:Gw) (H:Hp) (vs:List V) (Q:VK) (E:XK),Room k (A.deeper<|envOfC Z6 (defScope st) s.heap.objs.size f Z9)->sp vs H Q E->
   ∃t,PSs (si P w K mg base N Z6 (defScope st) f Z9 A outer s H E) (defBody st) t/\t {nx:=λ_ H'=>Q .non H',rt:=Q} (start N vs) H):FnOk P w K mg base (CXR P w) (k+1) f fd ps sp:=by
 obtain⟨oc,od,kV,doc,pm,an,Z9,ct,osl,rfl,lk,hcd⟩:=F.ex;exact A1 lk hcd S len λA outer s H vs Q E hr hsp=>hbody Z9 A outer s H vs Q E hr hsp
end
end L2
namespace Wb
open PySem L2 Mi
def Esc(Er:Nat->Prop)(cs:List Addr)(E:XK)(W:Wd):Prop:=∀j,Er j->∀x W',Ext W W'->W'.H x=none->E (.ref x) cs[j]? W'.H
theorem Esc.mono{Er:Nat->Prop}{cs:List Addr}{E:XK}{W W':Wd}(h:Esc Er cs E W)(e:Ext W W'):Esc Er cs E W':=λj hj x W1 e1 hx=>h j hj x W1 (e.trans e1) hx
section
variable{Er:Nat->Prop}{O B γ δ ε ζ η:Type}
def mE(R1:Rp O)(R2:Rp γ)(cs:List Addr)(rt:Rt B)(m:O->γ->Res B):Sp:=λvs H Q E=>∃(W:Wd)(a:O)(b:γ)(v u:V),W.H=H/\vs=[v,u]/\R1 W.G a v/\R2 W.G b u/\∃Er:Nat->Prop,Esc Er cs E W/\(m a b).OkE Er λr=>rt W r Q
def yZ(R1:Rp O)(R2:Rp γ)(R3:Rp δ)(cs:List Addr)(rt:Rt B)(m:O->γ->δ->Res B):Sp:=λvs H Q E=>∃(W:Wd)(a:O)(b:γ)(c:δ)(v u w:V),W.H=H/\vs=[v,u,w]/\R1 W.G a v/\R2 W.G b u/\R3 W.G c w/\∃Er:Nat->Prop,Esc Er cs E W/\(m a b c).OkE Er λr=>rt W r Q
variable{t1 t2 t3 t4 t5 t6:TE}{Y:St}{W W0 W':Wd}{cs:List Addr}{E:XK}{R1:Rp O}{R2:Rp γ}{R3:Rp δ}{R4:Rp ε}{R5:Rp ζ}{R6:Rp η}[Mono R1][Mono R2][Mono R3][Mono R4][Mono R5][Mono R6]{m1:Res O}{m2:Res γ}{m3:Res δ}{m4:Res ε}{m5:Res ζ}{m6:Res η}
theorem jU{R:Rp B}{m:O->γ->Res B}(hE:Esc Er cs E W)(h1:EV Er t1 Y W (sh R1) m1)(h2:EV Er t2 Y W (sh R2) m2):EV Er (aU (mE R1 R2 cs (rs R) m) [] E<|ah t1<|ah t2 aO) Y W (sh R) (m1.bind λa=>m2.bind λb=>m a b):=λW1 e1 Q k=>
 h1 W1 e1 _ ((Gj k).imp λa0 ka v0 W2 e2 r1=>h2 W2 (e1.trans e2) _<|(Gj ka).imp λb0 kb u0 W3 e3 r2=>⟨W3,a0,b0,v0,u0,rfl,rfl,GX (R:=sh R1) e3 r1,r2,Er,hE.mono<|(e1.trans e2).trans e3,kb.imp λr kr u W' e hu=>kr u W' ((e2.trans e3).trans e) hu⟩)
theorem uk{R:Rp B}{m:O->γ->δ->Res B}(hE:Esc Er cs E W)(h1:EV Er t1 Y W (sh R1) m1)(h2:EV Er t2 Y W (sh R2) m2)(h3:EV Er t3 Y W (sh R3) m3):EV Er (aU (yZ R1 R2 R3 cs (rs R) m) [] E<|ah t1<|ah t2<|ah t3 aO) Y W (sh R) (m1.bind λa=>m2.bind λb=>m3.bind λc=>m a b c):=λW1 e1 Q k=>
 h1 W1 e1 _ ((Gj k).imp λa0 ka v0 W2 e2 r1=>h2 W2 (e1.trans e2) _<|(Gj ka).imp λb0 kb u0 W3 e3 r2=>h3 W3 ((e1.trans e2).trans e3) _<|(Gj kb).imp λc0 kc w0 W4 e4 r3=>⟨W4,a0,b0,c0,v0,u0,w0,rfl,rfl,GX (R:=sh R1) (e3.trans e4) r1,GX (R:=sh R2) e4 r2,r3,Er,hE.mono<|((e1.trans e2).trans e3).trans e4,kc.imp λr kr u W' e hu=>kr u W' (((e2.trans e3).trans e4).trans e) hu⟩)
end
theorem gw{O:Type}{Er:Nat->Prop}{cs:List Addr}{E:XK}{C:Addr}{te:TE}{R:Rw O}{m:Res O}{D:Ends}{Y:St}{W:Wd}{j:Nat}{B:Type}{P:B->Prop}(hE:Esc Er cs E W)(hc:cs[j]? =some C)(h:EV Er te Y W R m)(q:(m.bind λ_=>(MT j:Res B)).OkE Er P):wz E C (ah te aO) D Y W.H:=
 h W (.refl _) _ ((Gj q).imp λa(ka:Er j)v W2 e2 hv=>⟨show 1<=sizeLine by decide,λx hx=>by rw[<-hc];exact hE j ka x W2 e2 hx⟩)
structure CalR(P:GQ)(w:Ha)(K:Gp)(mg:Str->Option Gv)(base:Heap)(x:Str)(ps:List Str)(k:Nat)(sp:Sp):Prop where
 ex:∃(f:Addr)(fd:GJ),FnOk P w K mg base (CXR P w) k f fd ps sp/\mg x=some (.ref f)/\I9 K (.ref f)=true/\Binds K fd ps []
theorem kP{X:Cx}{x:Str}{ps:List Str}{k:Nat}{sp:Sp}{E:XK}{p pos:Pos}{e:Expr}{es:List Expr}{t:TA}(C:CalR X.prog X.w X.K X.mg X.base x ps k sp)(hx:fo (CXR X.prog X.w) X E)(hr:Room k X.A)(hg:Gl X x)(ha:PA X (e::es) t)
  (hdb:(x==("__debug__" :Str))=false:=by decide) (he:starEach (e::es) X.env=(false,eval e X.env)::starEach es X.env:=by rfl) (hpl:(backTo pos<|starEach es X.env).any (·.1)=false:=by rfl):
  PE X (.Call (.Name x p) (e::es) [] pos) (aU sp [] E t):=by
 obtain⟨f,fd,F,hm,hk,hb⟩:=C.ex;exact rC F hr hg hm hk hb .nil hx ha hdb he hpl
structure CalH(P:GQ)(w:Ha)(K:Gp)(mg:Str->Option Gv)(base:Heap)(x:Str)(ps:List Str)(k:Nat)(sp:Addr->Addr->Sp):Prop where
 ex:∃(f:Addr)(fd:GJ),FnOkH P w K mg base k f fd ps sp/\mg x=some (.ref f)/\I9 K (.ref f)=true/\Binds K fd ps []
theorem z6{X:Cx}{xn:Str}{ps:List Str}{k:Nat}{sp:Addr->Addr->Sp}{x C:Addr}{od:Option Addr}{oe:Obj}{p pos:Pos}{e:Expr}{es:List Expr}{t:TA}(F:CalH X.prog X.w X.K X.mg X.base xn ps k sp)(hh:Held oe C od)(hr:RoomH k X.A)(hA:X.A.handled=some (.ref x))(hp:(x,oe)∈X.pn)(hg:Gl X xn)(ha:PA X (e::es) t)
  (hdb:(xn==("__debug__" :Str))=false:=by decide) (he:starEach (e::es) X.env=(false,eval e X.env)::starEach es X.env:=by rfl) (hpl:(backTo pos<|starEach es X.env).any (·.1)=false:=by rfl):
  PE X (.Call (.Name xn p) (e::es) [] pos) (aU (BG od<|sp x C) [] E0 t):=by
 obtain⟨f,fd,F,hm,hk,hb⟩:=F.ex;exact wG F hr hA hh hp hg hm hk hb ha hdb he hpl
def iC(K:Gp)(cs:List Addr)(aB:Addr)(x C:Addr):Sp:=λvs H Q _=>∃(W:Wd)(j:Nat),W.H=H/\vs=[.ref x]/\XK1 K C/\j<13/\(∀i a,cs[i]? =some a->Hh K (.ref C) (.ref a)=some (decide<|i=j))/\Hh K (.ref C) (.ref aB)=some true/\Hh K (.ref C) (.type "ValueError")=some true/\∀p W',Ext W W'->W.H p=none->Ow isS W' p [kindN.getD j []]->Q (.ref p) W'.H
structure Kin(K:Gp)(base:Heap)(cs:List Addr)(aB:Addr):Prop where
 len:cs.length=13
 top:∃bm,Xcl base aB bm
 one:∀(j:Nat)(C:Addr),cs[j]? =some C->XK1 K C/\(∀(i:Nat)(a:Addr),cs[i]? =some a->Hh K (.ref C) (.ref a)=some (decide<|i=j))/\Hh K (.ref C) (.ref aB)=some true/\Hh K (.ref C) (.type "ValueError")=some true/\∃bm,Xcl base C bm/\(GH C::bm).contains (.ref aB)=true
def EX(K:Gp)(cs:List Addr)(s:Tx)(W0:Wd)(Q:VK):XK:=λv C H'=>(∃x,v=.ref x)/\∃(j:Nat)(W':Wd),C=cs[j]? /\W'.H=H'/\Ext W0 W'/\rs (isU K) W0 (mr s j) Q
section
variable{K:Gp}{base:Heap}{cs:List Addr}{aB:Addr}{W0 W:Wd}{Q:VK}{s:Tx}{ie:Nat}{Y:St}{D:Ends}
theorem EX.cl(Z:Kin K base cs aB):∀v C H,EX K cs s W0 Q v (some C) H->∃bmC,Xcl base C bmC/\(GH C::bmC).contains (.ref aB)=true:=λv C H⟨_,j,W',h,_⟩=>(Z.one j C h.symm).2.2.2.2
theorem wH(Z:Kin K base cs aB){x C:Addr}{od:Option Addr}{H':Hp}{σ':St}{xs:Str}(hs:xs=sOf s)(hD:D.rt=Q)(h:EX K cs s W0 Q (XV x od) (some C) H')(hi:ie<σ'.length):
  d4 (d9<|ah (tC<|.str xs)<|ah (aU (BG od<|iC K cs aB x C) [] E0<|ah (bC ie) aO) aO) D (σ'.set ie<|some<|.ref x) H':=by
 obtain⟨⟨x',hx'⟩,j,W',hj,rfl,e,q⟩:=h;have ho:od=none:=by cases od with|none=>rfl|some d=>cases hx'
 obtain⟨z1,z2,z3,z4,_⟩:=Z.one j C hj.symm;have hj':j<13:=by rw[<-Z.len];exact(Gx.mp hj.symm).1
 have hk:EVo (λ_=>False) (aU (BG od<|iC K cs aB x C) [] E0<|ah (bC ie) aO) (σ'.set ie<|some<|.ref x) W' isS (.ok [kindN.getD j []]):=λW1 e1 Q1 k=>
  ⟨.ref x,by rw[JK hi],(λd z=>by rw[ho]at z;cases z),W1,j,rfl,rfl,z1,hj',z2,z3,z4,λp W2 e2 hp o=>k p W2 e2 hp o⟩
 refine aA (R:=sh<|isU K) (m:=.ok<|mr s j) (di (K:=K) (fk cR<|jm cR)<|aZ (K:=K) (aq (x:=xs) (l:=s) hs)<|HN hk)<|λv W2 e2 hv=>?_;rw[hD];exact q v W2 (e.trans e2) hv
end
section
variable{O B γ δ:Type}{K:Gp}{base:Heap}{cs:List Addr}{aB:Addr}{W0 W:Wd}{Q:VK}{s:Tx}{ie i:Nat}{Y:St}{D:Ends}{t1 t2 t3:TE}{R1:Rp O}{R2:Rp γ}{R3:Rp δ}{R:Rp B}[Mono R1][Mono R2][Mono R3]{m1:Res O}{m2:Res γ}{m3:Res δ}{rest:TS}{σ':V->St}{xs:Str}
abbrev B5(K:Gp)(cs:List Addr)(aB:Addr)(ie:Nat)(xs:Str):Addr->Addr->Option Addr->Obj->TS:=λx C od _=>d4<|d9<|ah (tC<|.str xs)<|ah (aU (BG od<|iC K cs aB x C) [] E0<|ah (bC ie) aO) aO
end
end Wb
namespace Wb
open PySem L2 Mi
open PySem.W (findIn findObj mroIn kitOne kitCls clsIn typeIn subIn specialIn takesIn Frag)
def vE:List Gv:=[.type "ValueError",.type "Exception",.type "BaseException",.type "object"]
def XcK(K:Frag)(C N:Addr)(bm:List Gv):Prop:=∃nm q bs hdct sn sub ab col dd k0 k1 k2 k3 k5,K.lookup C=some (excClassObj nm q C N bs bm hdct sn sub ab col dd k0 k1 k2 k3 k5 "ValueError.__new__")
structure Cx1(K:Frag)(aB C:Addr):Prop where
 at_:∃N,XcK K C N (.ref aB::vE)
 ga:findIn K (.ref C) "__getattribute__"=some (some<|.builtin "BaseException.__getattribute__")
 gt:findIn K (.ref C) "__getattr__"=some none
 cl:findIn K (.ref C) "__class__"=some (some<|.builtin "object.__class__")
section
variable{K:Frag}{base:Heap}{C D N:Addr}{bm bm':List Gv}
theorem XcK.cls(x:XcK K C N bm):∃cd,clsIn K C=some cd/\cd.mro=.ref C::bm/\typeIn K (.ref C)=some (.type "type"):=by
 obtain⟨nm,q,bs,hdct,sn,sub,ab,col,dd,k0,k1,k2,k3,k5,e⟩:=x;refine⟨{name:=nm,bases:=bs,mro:=.ref C::bm,ns:=N,qualname:=q,hasDict:=hdct,slotNames:=sn,subclasses:=sub,abstract:=ab,collection:=col,hasDel:=false},?_,rfl,?_⟩;·unfold clsIn;rw[e]
 ·show Option.map (λx=>x.cls) (Il C K)=_;rw[e];rfl
theorem XcK.xcl(x:XcK K C N bm)(X:K.In base)(hb:bm.contains (.type "BaseException")=true):Xcl base C bm:=by
 obtain⟨nm,q,bs,hdct,sn,sub,ab,col,dd,k0,k1,k2,k3,k5,e⟩:=x;exact⟨nm,q,N,bs,hdct,sn,sub,ab,col,dd,k0,k1,k2,k3,k5,_,X _ _ e,hb⟩
theorem XcK.mro(x:XcK K C N bm)(v:Gv):mroIn K C v=some ((GH C::bm).contains v):=by
 obtain⟨cd,h1,h2,_⟩:=x.cls;unfold mroIn;rw[h1,M5,h2];rfl
theorem XcK.kit{N':Addr}(x:XcK K C N bm)(y:XcK K D N' bm'):kitOne K (.ref C) (.ref D)=some ((GH C::bm).contains (.ref D)):=by
 obtain⟨cd,h1,h2,h3⟩:=y.cls;unfold kitOne;by_cases e:(GH C==GH D)=true
 ·rw[Z1 e];rw[beq_iff_eq.mp e,Nd];simp
 ·rw[Z2 e];show(if((clsIn K D).isSome&&typeIn K (.ref D)==some (.type "type"))=true then subIn K (.ref C) (.ref D)else none)=_;rw[h1,h3,Z1 (by simp)];exact x.mro _
theorem XcK.kitT{T:String}(x:XcK K C N bm)(hT:Oc T=true):kitOne K (.ref C) (.type T)=some ((GH C::bm).contains (.type T)):=by
 unfold kitOne;rw[Z2 (by intro z;cases beq_iff_eq.mp z)];show(if Oc T=true then subIn K (.ref C) (.type T)else none)=_;rw[Z1 hT];exact x.mro _
end
theorem Cx1.xk{K:Frag}{aB C:Addr}(x:Cx1 K aB C)(hn:specialIn K (.builtin "object.__class__") "__get__"=some (some<|.builtin "getset_descriptor.__get__"))(ht:takesIn K (.builtin "object.__class__")=some true):XK1 K C:=by
 obtain⟨N,h⟩:=x.at_;refine⟨x.ga,x.gt,?_,?_,?_⟩
 ·intro od;obtain⟨cd,h1,h2,h3⟩:=h.cls;unfold findObj;rw[h1,M5,x.cl,M5];simp[hn,ht]
 ·rw[h.mro];simp[vE]
 ·rw[h.mro];simp[vE]
theorem ng{O:Type}:∀{l:List O},l.Nodup->∀{i j:Nat}{x:O},l[i]? =some x->l[j]? =some x->i=j
 | [],_,i,j,x,a,_=>by simp at a
 |y::r,nd,0,0,x,a,b=>rfl
 |y::r,nd,0,j+1,x,a,b=>by
  simp at a b;subst a;exact absurd (Hq b) (HQ.mp nd).1
 |y::r,nd,i+1,0,x,a,b=>by
  simp at a b;subst b;exact absurd (Hq a) (HQ.mp nd).1
 |y::r,nd,i+1,j+1,x,a,b=>by
  simp at a b;rw[ng (HQ.mp nd).2 a b]
theorem Kin.of{K:Frag}{base:Heap}{cs:List Addr}{aB NB:Addr}(X:K.In base)(hn:specialIn K (.builtin "object.__class__") "__get__"=some (some<|.builtin "getset_descriptor.__get__"))(ht:takesIn K (.builtin "object.__class__")=some true)
  (len:cs.length=13) (nd:(aB::cs).Nodup) (top:XcK K aB NB vE) (all:∀C∈cs,Cx1 K aB C):Kin K base cs aB:=by
 have one:∀(j:Nat)(C:Addr),cs[j]? =some C->C∈cs:=λj C h=>Hq h;refine⟨len,⟨vE,top.xcl X ⋯⟩,λj C h=>?_⟩;have hC:=all C<|one j C h;obtain⟨N,hx⟩:=hC.at_;refine⟨hC.xk hn ht,λi a hi=>?_,?_,?_,.ref aB::vE,hx.xcl X (by simp[vE]),by simp⟩
 ·have ha:=all a<|one i a hi;obtain⟨N',hy⟩:=ha.at_;rw[hx.kit hy];have nB:a≠aB:=λz=>(HQ.mp nd).1 (z▸one i a hi);have nd':=(HQ.mp nd).2;have key:(a=C)↔i=j:=by
   constructor
   ·intro z;subst z;obtain⟨l1,e1⟩:=Gx.mp hi;obtain⟨l2,e2⟩:=Gx.mp h;exact ng nd' hi h
   ·intro z;subst z;rw[hi]at h;exact Hl h
  by_cases z:i=j
  ·have:=key.mpr z;subst this;simp[z]
  ·have:¬a=C:=λy=>z<|key.mp y;simp[z,this,nB,vE]
 ·rw[hx.kit top];simp
 ·rw[hx.kitT ⋯];simp[vE]
theorem Ecl.of{K:Frag}{base:Heap}{aB C N NB:Addr}{o oB:Obj}{es eB:Array J9}{ep pB:Nat}(X:K.In base)(h:XcK K C N (.ref aB::vE))(hB:XcK K aB NB vE)(n:K.lookup N=some o)(d:o.data=.dict es ep)(k:Og es)(i:nsFind es "__init__"=none)
  (nB:K.lookup NB=some oB) (dB:oB.data=.dict eB pB) (kB:Og eB) (iB:nsFind eB "__init__"=none):Ecl base C:=by
 obtain⟨nm,q,bs,hdct,sn,sub,ab,col,dd,k0,k1,k2,k3,k5,e⟩:=h;obtain⟨nm',q',bs',hdct',sn',sub',ab',col',dd',k0',k1',k2',k3',k5',e'⟩:=hB;exact⟨nm,q,N,bs,.ref aB::vE,hdct,sn,sub,ab,col,dd,k0,k1,k2,k3,k5,_,λx=>nsFind es x,"ValueError",_,vE,X _ _ e,⟨o,es,ep,X _ _ n,d,k,λ_=>rfl⟩,i,.own (X _ _ e') ⟨oB,eB,pB,X _ _ nB,dB,kB,λ_=>rfl⟩ iB .base,PySem.F.excBase_ValueError⟩
def wI:Gv->Bool
 | .str _ _=>true
 |_=>false
theorem strKeys_of{es:Array J9}(h:(es.toList.all λe=>wI e.key)=true):Og es:=λe he=>by
 have:=KU.mp h e<|MI.mpr he;unfold wI at this;split at this;·rename_i n t q;exact⟨n,t,q⟩
 ·cases this
end Wb
namespace L2
open PySem PySem.Spec PyProof.Rows
abbrev TJ:=Str->St->Hp->(Str->Hp->Prop)->Prop
def PJ(X:Cx)(es:List Expr)(t:TJ):Prop:=∀(acc:Str)(Z_:List (Addr×Obj))(s:Gw)(Y:St)(H:Hp)(Q:Str->Hp->Prop),Inv X Z_ Y H s->t acc Y H Q->
 Joins (model X.prog X.w) X.A X.xe (evalEach es X.env) acc (λout s1=>∃H1,Inv X Z_ Y H1 s1/\Q out H1) s
def Cv:TJ:=λacc _ H Q=>Q acc H
def Cw(x:Str)(t:TJ):TJ:=λacc Y H Q=>(acc++x).length<=sizeLine/\t (acc++x) Y H Q
def z7(te:TE)(t:TJ):TJ:=λacc Y H Q=>te Y H λv H1=>∃y:Str,((v=.str y/\y.length<=sizeLine)\/∃i:Int,v=.int i/\i.natAbs.log2<1920/\y=Gq (toString i))/\(acc++y).length<=sizeLine/\t (acc++y) Y H1 Q
def Ad(t:TJ):TE:=λY H Q=>t NK Y H λout H1=>out.length<=sizeLine/\Q (.str out) H1
section
variable{X:Cx}{e:Expr}{es:List Expr}{te:TE}{t:TJ}{pos:Pos}
theorem jV:PJ X [] Cv:=λacc Z_ s Y H Q I h=>⟨H,I,h⟩
theorem gf{x:Str}{k}(ht:PJ X es t):PJ X (.Constant (.str x) k pos::es) (Cw x t):=λacc Z_ s Y H Q I h=>by
 have:=(ak (X:=X) (pos:=pos) (j:=k) (x:=x)) Z_ s Y H (λv H1=>v=.str x/\H1=H) I ⟨rfl,rfl⟩;refine cG this λv s1 zz=>?_;obtain⟨u,H1,I1,r,e1,e2⟩:=zz;rw[e1]at r;rw[e2]at I1;obtain⟨tk,rfl⟩:=r;exact⟨x,_,rfl,h.1,ht _ Z_ s1 Y H Q I1 h.2⟩
theorem gh(he:PE X e te)(ht:PJ X es t):PJ X (.FormattedValue e (-1) none pos::es) (z7 te t):=λacc Z_ s Y H Q I h=>by
 show wpAny _ _ (eval (.FormattedValue e (-1) none pos) X.env) _ _ _;refine wpAny_FormattedValue_plain<|cG (he Z_ s Y H _ I h) λv s1 zz=>?_;obtain⟨u,H1,I1,r,y,hy,hl,q⟩:=zz;rcases hy with⟨rfl,hz⟩|⟨i,rfl,hz,rfl⟩
 ·obtain⟨tk,rfl⟩:=r;refine wpAny_formatField_str ?_ ?_ hz;·exact⟨y,_,rfl,hl,ht _ Z_ _ Y H1 Q I1 q⟩
  ·exact⟨y,_,rfl,hl,ht _ Z_ _ Y H1 Q (I1.tok _) q⟩
 ·obtain⟨tk,rfl⟩:=r;refine wpAny_formatField_int hz ?_;exact⟨_,_,rfl,hl,ht _ Z_ _ Y H1 Q (I1.tok _) q⟩
theorem fF{e1 e2:Expr}(ht:PJ X (e1::e2::es) t):PE X (.JoinedStr (e1::e2::es) pos) (Ad t):=λZ_ s Y H Q I h=>by
 refine wpAny_JoinedStr ?_;have mono:∀(es:List (Sem Gv))(acc:Str)(P P':Str->Gw->Prop)(s:Gw),(∀o s,P o s->P' o s)->Joins (model X.prog X.w) X.A X.xe es acc P s->Joins (model X.prog X.w) X.A X.xe es acc P' s:=by
  intro es
  induction es with
  |nil=>intro acc P P' s k h;exact k _ _ h
  |cons a r ih=>intro acc P P' s k h;exact cG h λv s1⟨y,t,e,l,q⟩=>⟨y,t,e,l,ih _ _ _ _ k q⟩
 refine mono _ _ _ _ _ (λo s1⟨H1,I1,hz,q⟩=>⟨hz,.str o,H1,I1.tok _,⟨_,rfl⟩,q⟩)<|ht NK Z_ s Y H _ I h
end
end L2
namespace Wb
open PySem L2 Mi
theorem oq(i:Int):Gq (toString i)=sOf (gR i):=by rw[Str.ofString_eq_toList];rfl
def JV(Er:Nat->Prop)(t:TJ)(Y:St)(W:Wd)(f:Tx->Res Tx):Prop:=∀W1,Ext W W1->∀(acc:Tx)(Q:Str->Hp->Prop),(f acc).OkE Er (λout=>∀W2,Ext W1 W2->Q (sOf out) W2.H)->t (sOf acc) Y W1.H Q
section
variable{Er:Nat->Prop}{te:TE}{t:TJ}{Y:St}{W:Wd}{f:Tx->Res Tx}
theorem jW:JV Er Cv Y W λacc=>.ok acc:=λW1 _ acc Q k=>k W1<|.refl _
theorem gi{x:Str}{l:Tx}(hx:x=sOf l)(h:JV Er t Y W f):JV Er (Cw x t) Y W λacc=>(bS acc l).bind f:=λW1 e1 acc Q k=>by
 obtain⟨h1,h2⟩:=aP<|Gj k;subst hx;refine⟨?_,?_⟩<;>rw[gE];·rw[cU,GI];exact iY h1
 ·exact h W1 e1 _ Q h2
theorem iD{m:Res Tx}(he:EV Er te Y W (sh isS) m)(h:JV Er t Y W f):JV Er (z7 te t) Y W λacc=>m.bind λy=>(bS acc y).bind f:=λW1 e1 acc Q k=>
 he W1 e1 _ ((Gj k).imp λy ky v W2 e2 hv=>by
  cases hv;obtain⟨h1,h2⟩:=aP<|Gj ky;refine⟨sOf y,.inl ⟨rfl,by rw[cU];exact iY (by omega)⟩,?_,?_⟩<;>rw[gE];·rw[cU,GI];exact iY h1
  ·exact h W2 (e1.trans e2) _ Q (h2.imp λout ko W3 e3=>ko W3 (e2.trans e3)))
theorem jq{m:Res Int}(he:EV Er te Y W (sh isI) m)(h:JV Er t Y W f):JV Er (z7 te t) Y W λacc=>m.bind λi=>(jS i).bind λy=>(bS acc y).bind f:=λW1 e1 acc Q k=>
 he W1 e1 _ ((Gj k).imp λi ki v W2 e2 hv=>by
  cases hv;obtain⟨h0,ky⟩:=aP<|Gj ki;obtain⟨h1,h2⟩:=aP<|Gj ky;refine⟨Gq<|toString i,.inr ⟨i,rfl,h0,rfl⟩,?_,?_⟩<;>rw[oq,gE];·rw[cU,GI];exact iY h1
  ·exact h W2 (e1.trans e2) _ Q (h2.imp λout ko W3 e3=>ko W3 (e2.trans e3)))
theorem fG(h:JV Er t Y W f):EV Er (Ad t) Y W (sh isS) ((f []).bind jT):=λW1 e1 Q k=>
 h W1 e1 [] _ ((Gj k).imp λout ko W2 e2=>by
  obtain⟨h1,h2⟩:=aP ko;exact⟨by rw[cU];exact iY h1,h2 _ W2 e2 rfl⟩)
end
end Wb
namespace Mi
def wJ{O:Type}(xs:List O)(k:Int):Res (List O):=f6 (-100000<=k/\k<=100000/\xs.length*k.toNat<=cap) (GS k.toNat xs).flatten
def mF{O:Type}(a b:List O):Res (List O):=f6 (a.length+b.length<=cap)<|a++b
def jr(sep:Tx):List Tx->Tx
 | []=>[]
 | [x]=>x
 |x::y::r=>x++(sep++jr sep (y::r))
def nh(sep:Tx)(xs:List Tx):Res Tx:=f6 (xs.flatten.length+xs.length*sep.length<=cap)<|jr sep xs
end Mi
namespace Wb
open PySem L2 Mi
section
variable{Er:Nat->Prop}{O B:Type}{K:Gp}{W W0:Wd}{p:Addr}{ta tb te:TE}{Y:St}{D:Ends}{i:Nat}{r:TS}{base:Heap}
theorem LR.app{R:Rp O}{H:Hp}{as bs:List O}{vs us:List V}(h2:LR R H as vs)(h4:LR R H bs us):LR R H (as++bs) (vs++us):=⟨by rw[GI,GI,h2.1,h4.1],λi v m q1 q2=>by
 by_cases hi:i<vs.length
 ·rw[Hu hi]at q1;rw[Hu (by rw[<-h2.1];exact hi)]at q2;exact h2.2 i v m q1 q2
 ·rw[Hm (by omega)]at q1;rw[Hm (by rw[<-h2.1];omega)]at q2;rw[<-h2.1]at q2;exact h4.2 _ v m q1 q2⟩
theorem LR.rep{R:Rp O}{H:Hp}{as:List O}{vs:List V}(h:LR R H as vs):∀k:Nat,LR R H (GS k as).flatten (GS k vs).flatten
 |0=>⟨rfl,λi v m q1 q2=>by simp at q1⟩
 |k+1=>by
  rw[Ig,Ig,Ij,Ij];exact LR.app h<|LR.rep h k
theorem sq{R:Rp O}[Mono R]{ma:Res (List O)}{mb:Res Int}(ha:EV Er ta Y W (pk R) ma)(hb:EV Er tb Y W (sh isI) mb):EVo Er (dW C1 ta tb) Y W R (ma.bind λa=>mb.bind λb=>wJ a b):=λW1 e1 Q k=>
 ha W1 e1 _ ((Gj k).imp λa ka x W2 e2 hx=>hb W2 (e1.trans e2) _ ((Gj ka).imp λb kb y W3 e3 hy=>by
  cases hy;obtain⟨p,vs,rfl,h1,h2⟩:=GX e3 hx;obtain⟨⟨h5,h6,h7⟩,h8⟩:=aP kb;refine⟨p,b,vs,rfl,rfl,h1,by omega,by omega,by rw[h2.1];exact iY h7,λr hr=>h8 r (W3.mut r (.lst (GS b.toNat vs).flatten) (W3.gnone hr)) ((e2.trans e3).trans (.own _ hr)) (none_of (e2.trans e3).h hr) ⟨W3.gnone hr,_,ao,LR.rep h2 _⟩⟩))
theorem qT{kk k2 k3:St->Hp->Prop}{k1:VK}{R:Rp O}[Mono R]{p:Addr}{xs:List O}{m:Res (List O)}(o:Ow R W p xs)(h:EV Er te Y W (pk R) m)(q:(m.bind λa=>mF xs a).OkE Er λys=>∀W',Mu W W' p->Ow R W' p ys->kk Y W'.H)(hi:Y[i]? =some (some<|.ref p):=by rfl):bE (fy K "list" nO (bC i)<|ah te aO) ⟨kk,k1,k2,k3⟩ Y W.H:=by
 obtain⟨vs,h1,h2⟩:=o.h;refine⟨.ref p,hi,.inl ⟨rfl,vs,Ic h1⟩,h W (.refl _) _<|(Gj q).imp λa ka v W2 e2 hv=>?_⟩;obtain⟨h3,h4⟩:=aP ka;obtain⟨b,us,rfl,g1,g2⟩:=hv;have hg:=(o.mono e2).g;refine⟨p,b,vs,us,rfl,rfl,e2.h _ _ h1,g1,by rw[h2.1,g2.1];exact iY h3,h4 (W2.mut p (.lst<|vs++us) hg) (.of e2 hg) ⟨hg,_,ao,LR.app (h2.same e2.g) g2⟩⟩
end
end Wb
namespace L2
open PySem PySem.Spec PySem.Calls PyProof.Rows Mi
theorem pL(sep:Tx)(ys:List Tx):Txt.join (sOf sep) (ys.map sOf)=sOf (jr sep ys):=by
 have key:∀(r:List (List Nat))(acc:List Nat),(r.map sOf).foldl (λacc p=>acc++(sOf sep).cps++p.cps) acc.toArray=(match r with| []=>acc|_=>acc++sep++jr sep r).toArray:=by
  intro r
  induction r with
  |nil=>intro acc;rfl
  |cons a r ih=>
   intro acc;rw[Hs,JQ];have e:acc.toArray++(sOf sep).cps++(sOf a).cps=(acc++sep++a).toArray:=by simp[sOf]
   rw[e,ih<|acc++sep++a];cases r with
   |nil=>simp[jr]
   |cons b r=>simp[jr,J8]
 cases ys with
 |nil=>rfl
 |cons a r=>
  show Str.mk ((r.map sOf).foldl (λacc p=>acc++(sOf sep).cps++p.cps) a.toArray)=_;rw[key r a];cases r with
  |nil=>rfl
  |cons b r=>show sOf _=sOf _;simp[jr,J8]
theorem wK(ys:List Tx):((ys.map sOf).map (·.length)).sum=ys.flatten.length:=by
 rw[HP,MV];congr 1
 all_goals exact Iz λy _=>cU y
def wL(K:Gp):V->List V->Hp->VK->Prop:=λx xs H Q=>∃(p:Addr)(sep:Tx)(ys:List Tx),x=.str (sOf sep)/\xs=[.ref p]/\(SqL K H p (ys.map λy=>Jp<|sOf y)\/SqT K H p (ys.map λy=>Jp<|sOf y))/\ys.flatten.length+ys.length*sep.length<=100000/\Q (.str<|sOf<|jr sep ys) H
section
variable{X:Cx}{K:Gp}
theorem pM(h:X.K=K):A2 X "str.join" (wL K):=by
 subst h;intro Z_ s Y H x xs v us Q I rx rs h;obtain⟨p,sep,ys,rfl,rfl,hp,hl,q⟩:=h;obtain⟨t,rfl⟩:=rx;obtain⟨u,rfl,r1⟩:=fx rs;cases r1;have fit:((ys.map sOf).map (·.length)).sum+(ys.map sOf).length*(sOf sep).length<=16777216:=by rw[wK,cU,GR];omega
 rcases hp with hp|hp
 ·obtain⟨its,r,pl,hz⟩:=I.list hp;exact join_list pl.isList (by simpa using iR r) fit λt' k=>⟨.str _,H,I.tok _,⟨t',rfl⟩,by rw[pL];exact q⟩
 ·obtain⟨its,r,pl,hz⟩:=I.tuple hp;exact join_tuple pl (by simpa using iR r) fit λt' k=>⟨.str _,H,I.tok _,⟨t',rfl⟩,by rw[pL];exact q⟩
end
end L2
namespace Wb
open PySem L2 Mi
section
variable{Er:Nat->Prop}{O B γ:Type}{K:Gp}{W Wq W0:Wd}{p:Addr}{t t1 ta tb te:TE}{Y:St}{D:Ends}{i j:Nat}{r:TS}{Hb:Hp}{E:XK}
theorem pN{ma:Res (List Tx)}{x:Str}{l:Tx}(hx:x=sOf l)(ha:EV Er ta Y W (pk isS) ma):EV Er (fy K "str" (wL K) (tC<|.str x)<|ah ta aO) Y W (sh isS) (ma.bind λa=>nh l a):=λW1 e1 Q k=>
 ⟨by show BZ K "str" (.str x) W1.H;rfl,ha W1 e1 _ ((Gj k).imp λa ka v W2 e2 hv=>by
  obtain⟨p,vs,rfl,h1,h2⟩:=hv;obtain⟨h3,h4⟩:=aP ka;exact⟨p,l,a,by rw[hx],rfl,.inl (Ic (by rw[h1,h2.str])),h3,h4 _ W2 e2 rfl⟩)⟩
theorem ou{ma:Res Int}(ha:EV Er ta Y W (sh isI) ma):EV Er (f9 (λxs H Q=>∃i:Int,xs=[.int i]/\i.natAbs.log2<1920/\Q (.str<|toString i) H)<|ah ta aO) Y W (sh isS) (ma.bind λi=>jS i):=λW1 e1 Q k=>
 ha W1 e1 _ ((Gj k).imp λa ka x W2 e2 hx=>by
  cases hx;obtain⟨h1,h2⟩:=aP ka;exact⟨a,rfl,h1,h2 _ W2 e2 (congrArg Jp (oq a))⟩)
end
end Wb
namespace Mi
def kI{O:Type}(xs:List O):Res (O×List O):=match xs[xs.length-1]? with|some a=>.ok (a,xs.dropLast)|none=>.stuck
end Mi
namespace Wb
open PySem L2 Mi
abbrev FS:=Addr->Prop
abbrev Rf(O:Type):=Wd->FS->O->V->Prop
theorem nn_of{H:Hp}{q:Addr}{o:HO}(h:H q=some o):H q≠none:=by rw[h];exact λz=>nomatch z
structure MuF(F:FS)(W W':Wd):Prop where
 g:Same W.G W'.G
 h:∀q,¬F q->W.H q≠none->W'.H q=W.H q
 k:∀q,W.H q≠none->W'.G q=W.G q
 n:∀q,W.H q≠none->W'.H q≠none
section
variable{O B γ:Type}{K:Gp}{W W' W0 W1 W2:Wd}{F F' F1:FS}
theorem Ext.keepH(e:Ext W W'){q:Addr}(hn:W.H q≠none):W'.H q=W.H q:=by
 obtain⟨o,ho⟩:=K9.mp hn;rw[ho];exact e.h _ _ ho
theorem Ext.muF(e:Ext W W'):MuF F W W':=⟨e.g,λq _ hn=>e.keepH hn,e.k,λq hn=>by rw[e.keepH hn];exact hn⟩
theorem MuF.trans(m:MuF F W W1)(m':MuF F1 W1 W2)(hF:∀q,F1 q->F q\/W.H q=none):MuF F W W2:=⟨m.g.trans m'.g,λq hq hn=>by
 have h1:=m.h q hq hn;have:¬F1 q:=λz=>(hF q z).elim hq hn;rw[m'.h q this (by rw[h1];exact hn),h1],λq hn=>by rw[m'.k q (m.n q hn),m.k q hn],λq hn=>m'.n q (m.n q hn)⟩
theorem MuF.of{p:Addr}{o:HO}(hF:F p)(hg:W.G p=none):MuF F W (W.mut p o hg):=⟨.refl _,λq hq hn=>ar λz=>hq<|z▸hF,λ_ _=>rfl,λq hn=>by
 show cN W.H p o q≠none;by_cases z:q=p
 ·rw[z,ao];exact λz=>nomatch z
 ·rw[ar z];exact hn⟩
class FrT(R:Rf O):Prop where
 fr:∀{W W':Wd}{F:FS}{a:O}{v:V},R W F a v->Same W.G W'.G->(∀q,F q->W'.H q=W.H q/\W'.G q=W.G q)->R W' F a v
 lv:∀{W:Wd}{F:FS}{a:O}{v:V},R W F a v->∀q,F q->W.G q=none/\W.H q≠none
theorem FrT.ext{R:Rf O}[FrT R]{a:O}{v:V}(t:R W F a v)(e:Ext W W'):R W' F a v:=FrT.fr t e.g λq hq=>⟨e.keepH (FrT.lv t q hq).2,e.k q (FrT.lv t q hq).2⟩
theorem FrT.mu{R:Rf O}[FrT R]{a:O}{v:V}(t:R W F a v)(m:MuF F' W W')(dj:∀q,F q->F' q->False):R W' F a v:=FrT.fr t m.g λq hq=>⟨m.h q (dj q hq) (FrT.lv t q hq).2,m.k q (FrT.lv t q hq).2⟩
class FzT(R:Rf O)(R':outParam (Rp O)):Prop where
 fz:∀{W W':Wd}{F:FS}{a:O}{v:V},R W F a v->Same W.G W'.G->(∀q,F q->W'.G q=W.H q)->R' W'.G a v
def fz(R:Rp O):Rf O:=λW F a v=>(∀q,¬F q)/\R W.G a v
instance zkeep44{R:Rp O}[Mono R]:FrT (fz R):=⟨λh s _=>⟨h.1,Gm s h.2⟩,λh q hq=>absurd hq<|h.1 q⟩
instance zkeep45{R:Rp O}[Mono R]:FzT (fz R) R:=⟨λh s _=>Gm s h.2⟩
structure TL(R:Rf O)(W:Wd)(Fs:Nat->FS)(xs:List O)(vs:List V):Prop where
 len:vs.length=xs.length
 el:∀i x u,xs[i]? =some x->vs[i]? =some u->R W (Fs i) x u
 rng:∀i q,Fs i q->i<xs.length
 dj:∀i j q,Fs i q->Fs j q->i=j
def oL(R:Rf O):Rf (List O):=λW F xs v=>∃(p:Addr)(vs:List V)(Fs:Nat->FS),v=.ref p/\W.G p=none/\W.H p=some (.lst vs)/\TL R W Fs xs vs/\(∀i,¬Fs i p)/\∀q,F q↔q=p\/∃i,Fs i q
theorem TL.at2{R:Rf O}{Fs:Nat->FS}{xs:List O}{vs:List V}(t:TL R W Fs xs vs){i:Nat}{q:Addr}(h:Fs i q):∃x u,xs[i]? =some x/\vs[i]? =some u/\R W (Fs i) x u:=by
 have h1:=t.rng i q h;have h2:i<vs.length:=by rw[t.len];exact h1
 exact⟨xs[i],vs[i],by simp[h1],by simp[h2],t.el i _ _ (by simp[h1]) (by simp[h2])⟩
instance zkeep46{R:Rf O}[FrT R]:FrT (oL R):=⟨λ⟨p,vs,Fs,e,g,h,t,np,hF⟩s k=>by
 have kp:=k p<|(hF p).mpr (.inl rfl);exact⟨p,vs,Fs,e,by rw[kp.2];exact g,by rw[kp.1];exact h,⟨t.len,λi x u a b=>FrT.fr (t.el i x u a b) s<|λq hq=>k q<|(hF q).mpr (.inr ⟨i,hq⟩),t.rng,t.dj⟩,np,hF⟩,λ⟨p,vs,Fs,e,g,h,t,np,hF⟩q hq=>by
 rcases (hF q).mp hq with rfl|⟨i,hi⟩
 ·exact⟨g,nn_of h⟩
 ·obtain⟨x,u,_,_,r⟩:=t.at2 hi;exact FrT.lv r q hi⟩
instance zkeep47{R:Rf O}{R':Rp O}[FzT R R']:FzT (oL R) (isL R'):=⟨λ⟨p,vs,Fs,e,g,h,t,np,hF⟩s k=>⟨p,vs,e,by rw[k p<|(hF p).mpr (.inl rfl)];exact h,t.len,λi u x a b=>FzT.fz (t.el i x u b a) s λq hq=>k q<|(hF q).mpr (.inr ⟨i,hq⟩)⟩⟩
structure TC where
 {O:Type}
 R:Rf O
 a:O
 v:V
 i:FrT R
def tc(R:Rf O)[FrT R](a:O)(v:V):TC:=⟨R,a,v,inferInstance⟩
def noT:Rf Unit:=λ_ F _ _=>∀q,¬F q
instance zkeep48:FrT noT:=⟨λh _ _=>h,λh q hq=>absurd hq<|h q⟩
def Fh:TC:=tc noT () .non
structure SepF(W0 W:Wd)(Fs:Nat->FS)(cs:List TC):Prop where
 el:∀(i:Nat)(c:TC),cs[i]? =some c->c.R W (Fs i) c.a c.v
 rng:∀i q,Fs i q->i<cs.length
 dj:∀i j q,Fs i q->Fs j q->i=j
 nw:∀i q,Fs i q->W0.H q=none
def Sep(W0 W:Wd)(cs:List TC):Prop:=∃Fs,SepF W0 W Fs cs
variable{cs:List TC}
theorem Sep.nil:Sep W0 W []:=⟨λ_ _=>False,λ_ _ h=>by simp at h,λ_ _ h=>h.elim,λ_ _ _ h=>h.elim,λ_ _ h=>h.elim⟩
theorem SepF.lv{Fs:Nat->FS}(s:SepF W0 W Fs cs){i:Nat}{q:Addr}(h:Fs i q):W.G q=none/\W.H q≠none:=by
 have h1:=s.rng i q h;have:=s.el i cs[i] (by simp[h1]);exact @FrT.lv _ _ cs[i].i _ _ _ _ this q h
theorem Sep.ext(s:Sep W0 W cs)(e:Ext W W'):Sep W0 W' cs:=by
 obtain⟨Fs,s⟩:=s;exact⟨Fs,λi c h=> @FrT.ext _ _ _ _ _ c.i _ _ (s.el i c h) e,s.rng,s.dj,s.nw⟩
theorem SepF.put{Fs:Nat->FS}{R:Rf B}[FrT R]{b:B}{u:V}{i:Nat}(s:SepF W0 W Fs cs)(E:Ext W0 W)(m:MuF (Fs i) W W')(hF:∀q,F q->Fs i q\/W.H q=none)(t:R W' F b u)(hi:i<cs.length):Sep W0 W' (cs.set i<|tc R b u):=by
 refine⟨λj=>if j=i then F else Fs j,λj c h=>?_,λj q h=>?_,λj k q h1 h2=>?_,λj q h=>?_⟩
 ·rw[Ju]at h;by_cases z:i=j
  ·subst z;rw[Z1 rfl,Z1 hi]at h;cases h;simp only[if_true];exact t
  ·rw[Z2 z]at h;simp only[Z2 (HW z)];exact @FrT.mu _ _ _ _ _ _ c.i _ _ (s.el j c h) m λq a b=>z (s.dj j i q a b).symm
 ·rw[Jb];by_cases z:j=i;·rw[z];exact hi
  ·simp only[Z2 z]at h;exact s.rng j q h
 ·have key:∀j q,(if j=i then F else Fs j) q->(j=i/\F q)\/(j≠i/\Fs j q):=λj q h=>by
   by_cases z:j=i;·exact .inl ⟨z,by simpa [Z1 z] using h⟩
   ·exact .inr ⟨z,by simpa [Z2 z] using h⟩
  rcases key j q h1 with⟨z1,a⟩|⟨z1,a⟩<;>rcases key k q h2 with⟨z2,b⟩|⟨z2,b⟩
  ·rw[z1,z2]
  ·exact((hF q a).elim (λy=>z2<|s.dj k i q b y) λy=>absurd y (s.lv b).2).elim
  ·exact((hF q b).elim (λy=>z1<|s.dj j i q a y) λy=>absurd y (s.lv a).2).elim
  ·exact s.dj j k q a b
 ·by_cases z:j=i
  ·simp only[Z1 z]at h;exact(hF q h).elim (s.nw i q) λy=>none_of E.h y
  ·simp only[Z2 z]at h;exact s.nw j q h
theorem Sep.add{R:Rf B}[FrT R]{b:B}{u:V}(s:Sep W0 W cs)(E:Ext W0 W)(e:Ext W W')(hF:∀q,F q->W.H q=none)(t:R W' F b u):Sep W0 W' (cs++[tc R b u]):=by
 obtain⟨Fs,s⟩:=s;have hn:∀j q,j=cs.length->¬Fs j q:=λj q z h=>by have:=s.rng j q h;omega
 have key:∀j q,(if j=cs.length then F else Fs j) q->(j=cs.length/\F q)\/(j<cs.length/\Fs j q):=λj q h=>by
  by_cases z:j=cs.length;·exact .inl ⟨z,by simpa [Z1 z] using h⟩
  ·have h':Fs j q:=by simpa [Z2 z] using h
   exact .inr ⟨s.rng j q h',h'⟩
 refine⟨λj=>if j=cs.length then F else Fs j,λj c h=>?_,λj q h=>?_,λj k q h1 h2=>?_,λj q h=>?_⟩
 ·by_cases z:j< cs.length
  ·rw[Hu z]at h;simp only[Z2 (GV z)];exact @FrT.ext _ _ _ _ _ c.i _ _ (s.el j c h) e
  ·rw[Hm (by omega)]at h;have:j-cs.length=0:=by
    refine HX λy=>?_;rw[Hv.mpr (by simp;omega)]at h;cases h
   rw[this]at h;cases h;have z2:j=cs.length:=by omega
   simp only[Z1 z2];exact t
 ·rw[GI,Jq];rcases key j q h with⟨a,_⟩|⟨a,_⟩<;>omega
 ·rcases key j q h1 with⟨z1,a⟩ | ⟨z1,a⟩ <;> rcases key k q h2 with⟨z2,b⟩ | ⟨z2,b⟩
  ·omega
  ·exact absurd (hF q a) (s.lv b).2
  ·exact absurd (hF q b) (s.lv a).2
  ·exact s.dj j k q a b
 ·rcases key j q h with⟨_,a⟩ | ⟨_,a⟩
  ·exact none_of E.h<|hF q a
  ·exact s.nw j q a
theorem SepF.del{Fs:Nat->FS}(s:SepF W0 W Fs cs)(i:Nat):Sep W0 W (cs.eraseIdx i):=by
 by_cases hi:i<cs.length
 ·have key:∀j q,(if j<i then Fs j else Fs (j+1)) q->(j<i/\Fs j q)\/(i<=j/\Fs (j+1) q):=λj q h=>by
   by_cases z:j<i;·exact .inl ⟨z,by simpa [Z1 z] using h⟩
   ·exact .inr ⟨by omega,by simpa [Z2 z] using h⟩
  refine⟨λj=>if j<i then Fs j else Fs (j+1),λj c h=>?_,λj q h=>?_,λj k q h1 h2=>?_,λj q h=>?_⟩
  ·by_cases z:j< i
   ·rw[List.getElem?_eraseIdx_of_lt z]at h;simp only[Z1 z];exact s.el j c h
   ·rw[List.getElem?_eraseIdx_of_ge (by omega)]at h;simp only[Z2 z];exact s.el (j+1) c h
  ·rw[List.length_eraseIdx,Z1 hi];rcases key j q h with⟨a,b⟩|⟨a,b⟩
   ·omega
   ·have:=s.rng _ q b;omega
  ·rcases key j q h1 with⟨z1,a⟩|⟨z1,a⟩<;>rcases key k q h2 with⟨z2,b⟩|⟨z2,b⟩<;>have:=s.dj _ _ q a b<;>omega
  ·rcases key j q h with⟨_,a⟩|⟨_,a⟩<;>exact s.nw _ q a
 ·rw[List.eraseIdx_of_length_le (by omega)];exact⟨Fs,s⟩
open Classical in
theorem Sep.frz{R:Rf B}[FrT R]{R':Rp B}[FzT R R']{b:B}{u:V}{i:Nat}(s:Sep W0 W cs)(E:Ext W0 W)(hc:cs[i]? =some (tc R b u)):∃W',W'.H=W.H/\Ext W0 W'/\Same W.G W'.G/\Sep W0 W' (cs.eraseIdx i)/\R' W'.G b u:=by
 obtain⟨Fs,s⟩:=s;have hs:Same W.G λq=>if Fs i q then W.H q else W.G q:=λa o h=>by
  show(if Fs i a then _ else _)=_;rw[Z2 λz=>by have:=(s.lv z).1;rw[h]at this;cases this];exact h
 have ho:Same (λq=>if Fs i q then W.H q else W.G q) W.H:=λa o h=>by
  have h:(if Fs i a then W.H a else W.G a)=some o:=h;split at h;·exact h
  ·exact W.ok _ _ h
 let W':Wd:=⟨_,W.H,ho⟩
 refine⟨W',rfl,⟨E.g.trans hs,E.h,λq hq=>?_⟩,hs,?_,FzT.fz (R:=R) (s.el i _ hc) hs λq hq=>Z1 hq⟩
 ·show(if Fs i q then _ else _)=_;rw[Z2 λz=>hq<|s.nw i q z];exact E.k q hq
 ·have s2:SepF W0 W' (λk=>if k=i then(λ_=>False)else Fs k) (cs.set i Fh):=by
   have key:∀k q,(if k=i then(λ_=>False)else Fs k) q->k≠i/\Fs k q:=λk q h=>by
    by_cases z:k=i;·simp[Z1 z]at h
    ·exact⟨z,by simpa [Z2 z] using h⟩
   refine⟨λk c h=>?_,λk q h=>?_,λk l q h1 h2=>s.dj k l q (key k q h1).2 (key l q h2).2,λk q h=>s.nw k q (key k q h).2⟩
   ·rw[Ju]at h;by_cases z:i=k
    ·subst z;rw[Z1 rfl]at h;split at h
     ·cases h;simp only[if_true];exact λ_ z=>z
     ·cases h
    ·rw[Z2 z]at h;simp only[Z2 (HW z)];refine @FrT.fr _ _ c.i _ _ _ _ _ (s.el k c h) hs λq hq=>⟨rfl,?_⟩
     show(if Fs i q then _ else _)=_;rw[Z2 λy=>z<|s.dj i k q y hq]
   ·rw[Jb];exact s.rng k q (key k q h).2
  have:=s2.del i;rw[List.eraseIdx_set_eq]at this;exact this
end
section
variable{Er:Nat->Prop}{O B γ δ ε ζ:Type}{K:Gp}{W W' W0 W1 W2:Wd}{F F' F1:FS}{cs:List TC}{Y:St}{t ta tb te ti tp t1 t2 t3 t4 t5:TE}{D:Ends}{i k:Nat}{r:TS}
def vw(R:Rf O):Rw O:=λW a v=>∃F,R W F a v
instance zkeep49{R:Rf O}[FrT R]:MonoW (vw R):=⟨λe⟨F,t⟩=>⟨F,FrT.ext t e⟩⟩
theorem Sep.vw{R:Rf O}[FrT R]{a:O}{v:V}(s:Sep W0 W cs)(hc:cs[k]? =some (tc R a v)):vw R W a v:=by
 obtain⟨Fs,s⟩:=s;exact⟨Fs k,s.el k _ hc⟩
theorem cq{R:Rf O}[FrT R]{a:O}{v:V}(s:Sep W0 W cs)(hc:cs[k]? =some (tc R a v):=by rfl)(h:Y[i]? =some (some v):=by rfl):EV Er (bC i) Y W (vw R) (.ok a):=aY (s.vw hc) h
theorem B6{xs:List O}{j:Int}{a:O}(h:tU xs j=some a):∃l,Mi.ixN xs.length j=some l/\xs[l]? =some a:=by
 unfold tU at h;cases z:Mi.ixN xs.length j with
 |none=>rw[z]at h;cases h
 |some l=>rw[z]at h;exact⟨l,rfl,h⟩
theorem TL.ix{R:Rf O}{Fs:Nat->FS}{xs:List O}{vs:List V}(t:TL R W Fs xs vs){j:Int}{l:Nat}{a:O}(h1:Mi.ixN xs.length j=some l)(h2:xs[l]? =some a):∃x,vs[l]? =some x/\L2.atI vs j=some x/\R W (Fs l) a x:=by
 have hl:l<vs.length:=by rw[t.len];exact(Gx.mp h2).1
 refine⟨vs[l],by simp[hl],?_,t.el l a _ h2 (by simp[hl])⟩;show(L2.ixN vs.length j).bind _=_;rw[t.len,show L2.ixN xs.length j=Mi.ixN xs.length j from rfl,h1];simp[hl]
theorem iE{R:Rf O}[FrT R]{ma:Res (List O)}{mb:Res Int}(ha:EV Er ta Y W (vw<|oL R) ma)(hb:EV Er tb Y W (sh isI) mb):EV Er (dW (cT K) ta tb) Y W (vw R) (ma.bind λa=>mb.bind λb=>gS a b):=
 qL ha hb λW a b x y Q hx hy k=>by
  cases hy;obtain⟨F,p,vs,Fs,rfl,g,h,t,np,hF⟩:=hx;obtain⟨c,h4,h5⟩:=dJ k;obtain⟨l,h6,h7⟩:=B6 h4;obtain⟨z,h8,h9,a0⟩:=t.ix h6 h7;exact⟨p,_,b,z,rfl,rfl,Ic h,h9,h5 _ W (.refl _) ⟨_,a0⟩⟩
theorem eS{R:Rp O}{m:Res O}(h:EV Er t Y W (vw<|fz R) m):EV Er t Y W (sh R) m:=h.imp λ_ _ _⟨_,r⟩=>r.2
theorem TL.lr{R:Rp O}{Fs:Nat->FS}{xs:List O}{vs:List V}(t:TL (fz R) W Fs xs vs):LR R W.G xs vs:=⟨t.len,λi v m a b=>(t.el i m v b a).2⟩
theorem TL.of{R:Rp O}{xs:List O}{vs:List V}(t:LR R W.G xs vs):TL (fz R) W (λ_ _=>False) xs vs:=⟨t.1,λi x u a b=>⟨λ_ z=>z,t.2 i u x b a⟩,λ_ _ z=>z.elim,λ_ _ _ z=>z.elim⟩
theorem eU{R:Rp O}{m:Res (List O)}(h:EV Er t Y W (vw<|oL<|fz R) m):EV Er t Y W (pk R) m:=h.imp λ_ _ _⟨_,p,vs,Fs,e,g,h,t,_⟩=>⟨p,vs,e,h,t.lr⟩
def wM(Er:Nat->Prop)(t:TE)(Y:St)(W:Wd)(R:Rf O)(m:Res O):Prop:=∀W1,Ext W W1->∀Q:VK,m.OkE Er (λa=>∀v W2 F,Ext W1 W2->(∀q,F q->W1.H q=none)->R W2 F a v->Q v W2.H)->t Y W1.H Q
theorem oL.ofOw{R:Rp O}{p:Addr}{xs:List O}(o:Ow R W p xs):oL (fz R) W (· =p) xs (.ref p):=by
 obtain⟨vs,h1,h2⟩:=o.h;exact⟨p,vs,λ_ _=>False,rfl,o.g,h1,.of h2,λ_ z=>z,λq=>⟨.inl,λz=>z.elim id λ⟨_,z⟩=>z.elim⟩⟩
theorem EVo.tr{R:Rp O}{m:Res (List O)}(h:EVo Er t Y W R m):wM Er t Y W (oL<|fz R) m:=λW1 e1 Q k=>h W1 e1 Q (k.imp λxs kx p W2 e2 hp o=>kx _ W2 _ e2 (λq hq=>by rw[hq];exact hp)<|oL.ofOw o)
def Lens(W0:Wd)(C:O->List TC)(R:Rf B):Rw (B×(B->O)):=λW bp u=>∃F,R W F bp.1 u/\(∀q,F q->W0.H q=none)/\∀W' F' b',MuF F W W'->(∀q,F' q->F q\/W.H q=none)->R W' F' b' u->Sep W0 W' (C<|bp.2 b')
instance zkeep50{C:O->List TC}{R:Rf B}[FrT R]:MonoW (Lens W0 C R):=⟨λe⟨F,t,n,p⟩=>⟨F,FrT.ext t e,n,λW' F' b' m hF t'=>p W' F' b' (e.muF.trans m λq hq=>.inl hq) (λq hq=>(hF q hq).imp id (none_of e.h)) t'⟩⟩
variable{C:O->List TC}
theorem fM{R:Rf O}[FrT R]{a:O}{v:V}(s:Sep W0 W (C a))(E:Ext W0 W)(hc:(C a)[k]? =some (tc R a v):=by rfl)(hs:∀b,C b=(C a).set k (tc R b v):=by intro _;rfl)(h:Y[i]? =some (some v):=by rfl):EV Er (bC i) Y W (Lens W0 C R) (.ok (a,λb=>b)):=by
 obtain⟨Fs,s⟩:=s;exact aY (R:=Lens W0 C R) ⟨Fs k,s.el k _ hc,s.nw k,λW' F' b' m hF t=>by rw[hs];exact s.put E m hF t (Gx.mp hc).1⟩ h
theorem MuF.up(m:MuF F W W')(h:∀q,F q->F' q):MuF F' W W':=⟨m.g,λq hq hn=>m.h q (λz=>hq<|h q z) hn,m.k,m.n⟩
theorem Lens.lf{R:Rp B}[Mono R]{bp:List B×(List B->O)}{u:V}(E:Ext W0 W)(l:Lens W0 C (oL<|fz R) W bp u):∃p vs,u=.ref p/\W.H p=some (.lst vs)/\LR R W.G bp.1 vs/\∃hg:W.G p=none,∀vs' xs',LR R W.G xs' vs'->Ext W0 (W.mut p (.lst vs') hg)/\Sep W0 (W.mut p (.lst vs') hg) (C<|bp.2 xs'):=by
 obtain⟨F,⟨p,vs,Fs,rfl,g,h,t,np,hF⟩,n,pb⟩:=l;have hp:F p:=(hF p).mpr (.inl rfl);refine⟨p,vs,rfl,h,t.lr,g,λvs' xs' lr=>⟨E.mut (n p hp) g,pb _ (· =p) xs' (MuF.of hp g) (λq hq=>.inl (by rw[hq];exact hp)) ⟨p,vs',λ_ _=>False,rfl,g,ao,.of lr,λ_ z=>z,λq=>⟨.inl,λz=>z.elim id λ⟨_,z⟩=>z.elim⟩⟩⟩⟩
theorem LR.dropLast{R:Rp B}{H:Hp}{xs:List B}{vs:List V}(h:LR R H xs vs):LR R H xs.dropLast vs.dropLast:=by
 rw[MD,MD,h.1];exact h.take _
theorem kQ{kk k2 k3:St->Hp->Prop}{k1:VK}{R:Rp B}[Mono R]{mp:Res (List B×(List B->O))}{m:Res B}(E:Ext W0 W)(hp:EV Er tp Y W (Lens W0 C<|oL<|fz R) mp)(h:EV Er te Y W (sh R) m)(q:(mp.bind λp=>m.bind λx=>(eG p.1 x).bind λb=>.ok<|p.2 b).OkE Er λa'=>∀W',Same W.G W'.G->Ext W0 W'->Sep W0 W' (C a')->kk Y W'.H):
  bE (fy K "list" aK tp<|ah te aO) ⟨kk,k1,k2,k3⟩ Y W.H:=hp W (.refl _) _ ((Gj q).imp λp kp u W1 e1 l=>by
 obtain⟨p0,vs0,rfl,hH0,_,_⟩:=Lens.lf (E.trans e1) l;refine⟨.inl ⟨rfl,vs0,Ic hH0⟩,h W1 e1 _ ((Gj kp).imp λx kx v W2 e2 hv=>?_)⟩;obtain⟨p1,vs,ep,hH,lr,hg,back⟩:=Lens.lf ((E.trans e1).trans e2) (GX e2 l);cases ep;obtain⟨h3,h4⟩:=aP (Gj kx);obtain⟨b1,b2⟩:=back (vs++[v]) (p.1++[x]) (lr.snoc hv);exact⟨p0,vs,v,rfl,rfl,hH,by rw[lr.1,HR];unfold Mi.cap at h3;omega,h4 (W2.mut p0 (.lst (vs++[v])) hg) (e1.trans e2).g b1 b2⟩)
theorem sr{kk k2 k3:St->Hp->Prop}{k1:VK}{R:Rp B}[Mono R]{mp:Res (List B×(List B->O))}(E:Ext W0 W)(hp:EV Er tp Y W (Lens W0 C<|oL<|fz R) mp)(q:(mp.bind λp=>.ok<|p.2 []).OkE Er λa'=>∀W',Same W.G W'.G->Ext W0 W'->Sep W0 W' (C a')->kk Y W'.H):
  bE (dm K "list" bw tp) ⟨kk,k1,k2,k3⟩ Y W.H:=hp W (.refl _) _ ((Gj q).imp λp kp u W1 e1 l=>by
 obtain⟨p0,vs,rfl,hH,lr,hg,back⟩:=Lens.lf (E.trans e1) l;obtain⟨b1,b2⟩:=back [] [] .nil;exact⟨.inl ⟨rfl,vs,Ic hH⟩,p0,vs,rfl,rfl,hH,kp (W1.mut p0 (.lst []) hg) e1.g b1 b2⟩)
theorem z8{R:Rp B}[Mono R]{mp:Res (List B×(List B->O))}{m:Res B}{mi:Res Int}(E:Ext W0 W)(h:EV Er te Y W (sh R) m)(hp:EV Er tp Y W (Lens W0 C<|oL<|fz R) mp)(hj:EV Er ti Y W (sh isI) mi)(q:(m.bind λx=>mp.bind λp=>mi.bind λj=>(mn p.1 j x).bind λb=>.ok<|p.2 b).OkE Er λa'=>∀W',Same W.G W'.G->Ext W0 W'->Sep W0 W' (C a')->D.nx Y W'.H):
  cH te (yt tp ti rF) D Y W.H:=h W (.refl _) _ ((Gj q).imp λx kx v W1 e1 hv=>hp W1 e1 _ ((Gj kx).imp λp kp u W2 e2 l=>hj W2 (e1.trans e2) _ ((Gj kp).imp λj kj y W3 e3 hy=>by
 cases hy;obtain⟨p0,vs,rfl,hH,lr,hg,back⟩:=Lens.lf (((E.trans e1).trans e2).trans e3) (GX e3 l);obtain⟨n,h3,h4⟩:=dJ (Gj (Gj kj));obtain⟨b1,b2⟩:=back (vs.set n v) (p.1.set n x) (lr.set (Gm (R:=R) (e2.trans e3).g hv) n);exact⟨p0,vs,j,n,rfl,rfl,hH,by rw[lr.1];exact h3,h4 (W3.mut p0 (.lst (vs.set n v)) hg) ((e1.trans e2).trans e3).g b1 b2⟩)))
theorem js{kk k2 k3:St->Hp->Prop}{k1:VK}{R:Rf B}[FrT R]{m:Res B}{σ':V->St}(S:Sep W0 W cs)(E:Ext W0 W)(h:wM Er te Y W R m)(q:m.OkE Er λa=>∀v W',Ext W W'->Sep W0 W' (cs++[tc R a v])->kk (σ' v) W'.H)(hσ:∀v,Y.set i (some v)=σ' v:=by intro _;rfl):cH te (bc i) ⟨kk,k1,k2,k3⟩ Y W.H:=h W (.refl _) _ (q.imp λa k v W' F e hF t=>by have:=k v W' e<|S.add E e hF t;rw[<-hσ]at this;exact this)
end
section
variable{Er:Nat->Prop}{O B γ:Type}{K:Gp}{W W' W0 W1 W2:Wd}{F F' F1:FS}{cs:List TC}{Y:St}{t ta tb te ti tp:TE}{D:Ends}{i k:Nat}{r:TS}
theorem jt{R:Rf O}:wM Er (df aO) Y W (oL R) (.ok []):=λW1 e1 Q k=>⟨by decide,λp hp=>k _ (W1.mut p (.lst [])<|W1.gnone hp) (· =p) (.own _ hp) (λq hq=>by rw[hq];exact hp) ⟨p,[],λ_ _=>False,rfl,W1.gnone hp,ao,⟨rfl,λi x u h=>by simp at h,λ_ _ z=>z.elim,λ_ _ _ z=>z.elim⟩,λ_ z=>z,λq=>⟨.inl,λz=>z.elim id λ⟨_,z⟩=>z.elim⟩⟩⟩
theorem wO{P:O->Prop}{m:Res O}(h:m.OkE Er P):(m.bind λb=>.ok b).OkE Er P:=by cases m<;>exact h
theorem sv{kk k2 k3:St->Hp->Prop}{k1:VK}{C:List B->List TC}{R:Rp B}[Mono R]{xs:List B}{v:V}{m:Res B}(S:Sep W0 W (C xs))(E:Ext W0 W)(h:EV Er te Y W (sh R) m)(q:(m.bind λx=>eG xs x).OkE Er λa'=>∀W',Same W.G W'.G->Ext W0 W'->Sep W0 W' (C a')->kk Y W'.H)(hc:(C xs)[k]? =some (tc (oL<|fz R) xs v):=by rfl)(hs:∀b,C b=(C xs).set k (tc (oL<|fz R) b v):=by intro _;rfl)(hi:Y[i]? =some (some v):=by rfl):
  bE (fy K "list" aK (bC i)<|ah te aO) ⟨kk,k1,k2,k3⟩ Y W.H:=kQ E (fM S E hc hs hi) h (by
 show(m.bind λx=>(eG xs x).bind λb=>.ok b).OkE Er _;cases m with
 |ok x=>exact wO q
 |err j=>exact q
 |stuck=>exact q)
theorem z9{kk k2 k3:St->Hp->Prop}{k1:VK}{C:List B->List TC}{R:Rp B}[Mono R]{xs:List B}{v:V}{m:Res B}{mi:Res Int}(S:Sep W0 W (C xs))(E:Ext W0 W)(h:EV Er te Y W (sh R) m)(hj:EV Er ti Y W (sh isI) mi)(q:(m.bind λx=>mi.bind λj=>mn xs j x).OkE Er λa'=>∀W',Same W.G W'.G->Ext W0 W'->Sep W0 W' (C a')->kk Y W'.H)(hc:(C xs)[k]? =some (tc (oL<|fz R) xs v):=by rfl)(hs:∀b,C b=(C xs).set k (tc (oL<|fz R) b v):=by intro _;rfl)(hi:Y[i]? =some (some v):=by rfl):
  cH te (yt (bC i) ti rF) ⟨kk,k1,k2,k3⟩ Y W.H:=z8 E h (fM S E hc hs hi) hj (by
 show(m.bind λx=>mi.bind λj=>(mn xs j x).bind λb=>.ok b).OkE Er _;cases m with
 |ok x=>
  cases mi with
  |ok y=>exact wO q
  |err j=>exact q
  |stuck=>exact q
 |err j=>exact q
 |stuck=>exact q)
end
section
variable{O B γ ρ τ:Type}
abbrev Ra(O:Type):=Hp->O->List V->Prop
def aN:Ra Unit:=λ_ _ us=>us=[]
def aC(R:Rp O)(RA:Ra B):Ra (O×B):=λG a us=>∃v r,us=v::r/\R G a.1 v/\RA G a.2 r
class MonoA(RA:Ra O):Prop where
 mono:∀{G G':Hp}{a:O}{us:List V},Same G G'->RA G a us->RA G' a us
instance zkeep61{R:Rp O}{RA:Ra B}[Mono R][MonoA RA]:MonoA (aC R RA):=⟨λe⟨v,r,h1,h2,h3⟩=>⟨v,r,h1,Gm e h2,MonoA.mono e h3⟩⟩
def sx(R:Rf τ)(RA:Ra O)(cs:List Addr)(RR:Rp ρ)(m:τ->O->Res (τ×ρ)):Sp:=λvs H Q E=>∃(W0 W:Wd)(F:FS)(x:τ)(v:V)(a:O)(us:List V),W.H=H/\vs=v::us/\Ext W0 W/\(∀q,F q->W0.H q=none)/\R W F x v/\RA W.G a us/\∃Er:Nat->Prop,Esc Er cs E W/\(m x a).OkE Er λr=>∀u W' F',Ext W0 W'->Same W.G W'.G->(∀q,F' q->W0.H q=none)->R W' F' r.1 v->RR W'.G r.2 u->Q u W'.H
open Classical in
noncomputable def wQ(H:Hp)(F:FS):Hp:=λq=>if F q then none else H q
theorem za{H:Hp}{F:FS}{q:Addr}(h:F q):wQ H F q=none:=by unfold wQ;rw[Z1 h]
theorem pO{H:Hp}{F:FS}{q:Addr}(h:¬F q):wQ H F q=H q:=by unfold wQ;rw[Z2 h]
noncomputable def Wd.sub(W:Wd)(F:FS)(h:∀q,F q->W.G q=none):Wd:=⟨W.G,wQ W.H F,λa o e=>by
 rw[pO (λz=>by rw[h a z]at e;cases e)];exact W.ok _ _ e⟩
theorem Wd.sub_in{W:Wd}{F:FS}{h:∀q,F q->W.G q=none}{q:Addr}(hq:F q):(W.sub F h).H q=none:=za hq
theorem Wd.sub_out{W:Wd}{F:FS}{h:∀q,F q->W.G q=none}{q:Addr}(hq:¬F q):(W.sub F h).H q=W.H q:=pO hq
theorem Wd.sub_ext{W:Wd}{F:FS}{h:∀q,F q->W.G q=none}:Ext (W.sub F h) W:=⟨.refl _,λa u z=>by
 by_cases y:F a;·rw[Wd.sub_in y]at z;cases z
 ·rw[Wd.sub_out y]at z;exact z,λ_ _=>rfl⟩
variable{W0 W:Wd}{cs:List TC}
theorem Sep.call{R:Rf B}[FrT R]{b:B}{v:V}{k:Nat}(s:Sep W0 W cs)(E:Ext W0 W)(hc:cs[k]? =some (tc R b v)):
  ∃W1 F,Ext W1 W/\R W F b v/\(∀q,F q->W1.H q=none)/\∀W' F' b',Ext W1 W'->(∀q,F' q->W1.H q=none)->R W' F' b' v->Ext W0 W'/\Sep W0 W' (cs.set k<|tc R b' v):=by
 obtain⟨Fs,s⟩:=s;have t:R W (Fs k) b v:=s.el k _ hc;have lv:=λq hq=>FrT.lv t q hq;have hi:k<cs.length:=(Gx.mp hc).1;have nF:∀p,W0.H p≠none->¬Fs k p:=λp hp z=>hp<|s.nw k p z;have E1:Ext W0 (W.sub (Fs k) λq hq=>(lv q hq).1):=⟨E.g,λa u z=>by rw[Wd.sub_out<|nF a<|nn_of z];exact E.h _ _ z,λp hp=>E.k p hp⟩
 refine⟨W.sub (Fs k) λq hq=>(lv q hq).1,Fs k,Wd.sub_ext,t,λq hq=>Wd.sub_in hq,λW' F' b' e hF' t'=>⟨E1.trans e,?_⟩⟩;have out:∀q,F' q->Fs k q\/W.H q=none:=λq hq=>by
  by_cases z:Fs k q;·exact .inl z
  ·exact .inr (by rw[<-Wd.sub_out (h:=λq hq=>(lv q hq).1) z];exact hF' q hq)
 refine⟨λj=>if j=k then F' else Fs j,λj c h=>?_,λj q h=>?_,λj l q h1 h2=>?_,λj q h=>?_⟩
 ·rw[Ju]at h;by_cases z:k=j
  ·subst z;rw[Z1 rfl,Z1 hi]at h;cases h;simp only[if_true];exact t'
  ·rw[Z2 z]at h;simp only[Z2 (HW z)];refine @FrT.fr _ _ c.i _ _ _ _ _ (s.el j c h) e.g λq hq=>?_;have nk:¬Fs k q:=λy=>z<|s.dj k j q y hq;have hn:(W.sub (Fs k) λq hq=>(lv q hq).1).H q≠none:=by rw[Wd.sub_out nk];exact(s.lv hq).2
   exact⟨by rw[e.keepH hn,Wd.sub_out nk],e.k q hn⟩
 ·rw[Jb];by_cases z:j=k;·rw[z];exact hi
  ·simp only[Z2 z]at h;exact s.rng j q h
 ·have key:∀j q,(if j=k then F' else Fs j) q->(j=k/\F' q)\/(j≠k/\Fs j q):=λj q h=>by
   by_cases z:j=k;·exact .inl ⟨z,by simpa [Z1 z] using h⟩
   ·exact .inr ⟨z,by simpa [Z2 z] using h⟩
  rcases key j q h1 with⟨z1,a⟩|⟨z1,a⟩<;>rcases key l q h2 with⟨z2,b⟩|⟨z2,b⟩
  ·rw[z1,z2]
  ·exact((out q a).elim (λy=>z2<|s.dj l k q b y) λy=>absurd y (s.lv b).2).elim
  ·exact((out q b).elim (λy=>z1<|s.dj j k q a y) λy=>absurd y (s.lv a).2).elim
  ·exact s.dj j l q a b
 ·by_cases z:j=k
  ·simp only[Z1 z]at h;exact(out q h).elim (s.nw k q) λy=>none_of E.h y
  ·simp only[Z2 z]at h;exact s.nw j q h
end
structure CalM(P:GQ)(w:Ha)(K:Gp)(mg:Str->Option Gv)(base:Heap)(CX:CXT)(C:Addr)(m:Str)(ps:List Str)(k:Nat)(sp:Sp):Prop where
 ex:∃(f:Addr)(fd:GJ),FnOk P w K mg base CX k f fd ps sp/\Meth K C m f/\Cls K C/\Binds K fd ps []
section
variable{X:Cx}{CX:CXT}{C:Addr}{m:Str}{ps:List Str}{k:Nat}{sp:Sp}{E:XK}{pos Z7:Pos}{o e:Expr}{es:List Expr}{ta:TE}{t:TA}
theorem ju{pl:Sem Bool}(h:CalM X.prog X.w X.K X.mg X.base CX0 C m ps k sp)(hr:Room k X.A)(he:PE X o ta)(ha:PA X (e::es) t)
  (hst:starEach (e::es) X.env=(false,eval e X.env)::starEach es X.env:=by rfl) (hpl:(backTo pos<|starEach es X.env).any (·.1)=false:=by rfl)
  (ht:eval (.Call (.Attribute o m Z7) (e::es) [] pos) X.env=(do
   let ov <-eval o X.env
   standAt Z7.atName
   let (f,first) <-holding [ov] (getMethod ov m pl)
   callWith pos f first (backTo pos (starEach (e::es) X.env)) (backToKw pos (keywordEach [] X.env))):=by rfl):
  PE X (.Call (.Attribute o m Z7) (e::es) [] pos) (gL C m sp [] E0 ta t):=by
 obtain⟨f,fd,F,M,c,b⟩:=h.ex;exact rD he c M F hr b .nil rJ ha hst hpl ht
theorem et{pl:Sem Bool}(h:CalM X.prog X.w X.K X.mg X.base CX0 C m ps k sp)(hr:Room k X.A)(he:PE X o ta)
  (ht:eval (.Call (.Attribute o m Z7) [] [] pos) X.env=(do
   let ov <-eval o X.env
   standAt Z7.atName
   let (f,first) <-holding [ov] (getMethod ov m pl)
   callWith pos f first (backTo pos (starEach [] X.env)) (backToKw pos (keywordEach [] X.env))):=by rfl):
  PE X (.Call (.Attribute o m Z7) [] [] pos) (gL C m sp [] E0 ta aO):=by
 obtain⟨f,fd,F,M,c,b⟩:=h.ex;exact oU he c M F hr b .nil rJ ht
theorem pP{pl:Sem Bool}(h:CalM X.prog X.w X.K X.mg X.base (CXR X.prog X.w) C m ps k sp)(hx:fo (CXR X.prog X.w) X E)(hr:Room k X.A)(he:PE X o ta)(ha:PA X (e::es) t)
  (hst:starEach (e::es) X.env=(false,eval e X.env)::starEach es X.env:=by rfl) (hpl:(backTo pos<|starEach es X.env).any (·.1)=false:=by rfl)
  (ht:eval (.Call (.Attribute o m Z7) (e::es) [] pos) X.env=(do
   let ov <-eval o X.env
   standAt Z7.atName
   let (f,first) <-holding [ov] (getMethod ov m pl)
   callWith pos f first (backTo pos (starEach (e::es) X.env)) (backToKw pos (keywordEach [] X.env))):=by rfl):
  PE X (.Call (.Attribute o m Z7) (e::es) [] pos) (gL C m sp [] E ta t):=by
 obtain⟨f,fd,F,M,c,b⟩:=h.ex;exact rD he c M F hr b .nil hx ha hst hpl ht
end
section
variable{Er:Nat->Prop}{O B γ ρ τ:Type}{W W0 W':Wd}{Y:St}{K:Gp}{cs:List TC}
theorem Sep.one{R:Rf τ}[FrT R]{F:FS}{x:τ}{v:V}(t:R W F x v)(h:∀q,F q->W0.H q=none):Sep W0 W [tc R x v]:=by
 have key:∀(i:Nat)q,(if i=0 then F else λ_=>False) q->i=0/\F q:=λi q h=>by
  by_cases z:i=0;·exact⟨z,by simpa [Z1 z] using h⟩
  ·simp[Z2 z]at h
 refine⟨λi=>if i=0 then F else λ_=>False,λi c hc=>?_,λi q hq=>?_,λi j q h1 h2=>?_,λi q hq=>h q (key i q hq).2⟩
 ·match i,hc with
  |0,hc=>cases hc;exact t
 ·rw[(key i q hq).1];exact Nat.one_pos
 ·rw[(key i q h1).1,(key j q h2).1]
def um(Er:Nat->Prop)(t:TA)(Y:St)(W:Wd)(RA:Ra O)(m:Res O):Prop:=∀W1,Ext W W1->∀Q:List V->Hp->Prop,m.OkE Er (λa=>∀us W2,Ext W1 W2->RA W2.G a us->Q us W2.H)->t Y W1.H Q
theorem fX:um Er aO Y W aN (.ok ()):=λW1 _ Q k=>k [] W1 (.refl _) rfl
theorem bJ{R:Rp O}{RA:Ra B}[Mono R]{te:TE}{t:TA}{m:Res O}{ma:Res B}(h:EV Er te Y W (sh R) m)(ht:um Er t Y W RA ma):um Er (ah te t) Y W (aC R RA) (m.bind λa=>ma.bind λb=>.ok (a,b)):=λW1 e1 Q k=>
 h W1 e1 _ ((Gj k).imp λa ka v W2 e2 hv=>ht W2 (e1.trans e2) _<|(Gj ka).imp λb kb us W3 e3 hu=>kb (v::us) W3 (e2.trans e3) ⟨v,us,rfl,Gm e3.g hv,hu⟩)
class HasM(R:Rf τ)(C:outParam Addr)(m:Str):Prop where
 at_:∀{W:Wd}{F:FS}{x:τ}{v:V},R W F x v->∃a dx fs,v=.ref a/\W.H a=some (.ins C dx fs)/\fs.lookup m=none
theorem Cy{R:Rf τ}[FrT R]{RA:Ra O}{RR:Rp ρ}{C:Addr}{m:Str}{k i:Nat}{x:τ}{v:V}{t:TA}{ma:Res O}{mf:τ->O->Res (τ×ρ)}{csx:List Addr}{E:XK}{Q:VK}(hm:HasM R C m)(S:Sep W0 W cs)(E0:Ext W0 W)(hc:cs[k]? =some (tc R x v))(hi:Y[i]? =some (some v))(ha:um Er t Y W RA ma)(hE:Esc Er csx E W)
  (q:(ma.bind λa=>mf x a).OkE Er λr=>∀u W',Ext W0 W'->Same W.G W'.G->Sep W0 W' (cs.set k<|tc R r.1 v)->RR W'.G r.2 u->Q u W'.H):gL C m (sx R RA csx RR mf) [] E (bC i) t Y W.H Q:=by
 obtain⟨Fs,s⟩:=id S;obtain⟨a,dx,fs,e,h1,h2⟩:=hm.at_<|s.el k _ hc;refine⟨v,hi,a,dx,fs,e,h1,h2,ha W (.refl _) _<|(Gj q).imp λb kb us W2 e2 hu=>?_⟩;obtain⟨W1,F,x1,t1,n1,up⟩:=(S.ext e2).call (E0.trans e2) hc;refine⟨W1,W2,F,x,v,b,us,rfl,by rw[Hw],x1,n1,t1,hu,Er,hE.mono e2,kb.imp λr kr u W' F' e' hs hF' t' hr=>?_⟩;obtain⟨z1,z2⟩:=up W' F' r.1 e' hF' t';exact kr u W' z1 (e2.g.trans hs) z2 hr
end
section
variable{Er:Nat->Prop}{O ρ τ:Type}{W W0 Wi:Wd}{Y:St}{cs:List TC}{D:Ends}{r:TS}{R:Rf τ}[FrT R]{RR:Rp ρ}{x:τ}{v:V}{k i j:Nat}{Q:VK}
abbrev EndO(W0 Wi:Wd)(R:Rf τ)(RR:Rp ρ)(v:V)(Q:VK):τ×ρ->Prop:=λr=>∀u W' F',Ext W0 W'->Same Wi.G W'.G->(∀q,F' q->W0.H q=none)->R W' F' r.1 v->RR W'.G r.2 u->Q u W'.H
theorem EndO.of{r:τ×ρ}{u:V}(S:Sep W0 W cs)(hc:cs[k]? =some (tc R r.1 v))(E:Ext W0 W)(hS:Same Wi.G W.G)(hr:RR W.G r.2 u)(q:EndO W0 Wi R RR v Q r):Q u W.H:=by
 obtain⟨Fs,s⟩:=S;exact q u W (Fs k) E hS (s.nw k) (s.el k _ hc) hr
theorem iF{te:TE}{m:Res ρ}(S:Sep W0 W cs)(hc:cs[k]? =some (tc R x v))(E:Ext W0 W)(hS:Same Wi.G W.G)(h:EV Er te Y W (sh RR) m)(q:(m.bind λr=>.ok (x,r)).OkE Er (EndO W0 Wi R RR v D.rt)):d4 te D Y W.H:=
 h W (.refl _) _ ((Gj q).imp λa ka u W2 e2 hu=>EndO.of (S.ext e2) hc (E.trans e2) (hS.trans e2.g) hu ka)
variable{RA:Ra O}{C:Addr}{m:Str}{t:TA}{ma:Res O}{mf:τ->O->Res (τ×ρ)}{csx:List Addr}{E:XK}
end
section
variable{τ ρ:Type}{K:Gp}{base:Heap}{cs:List Addr}{aB:Addr}{W0 W Wi:Wd}{Q:VK}{s:Tx}{ie k:Nat}{Y:St}{D:Ends}{rest tb:TS}{σ':V->St}{xs:Str}{cl:List TC}{R:Rf τ}[FrT R]{RR:Rp ρ}{x:τ}{v:V}
def Cz(K:Gp)(W0 W Wi:Wd)(cl:List TC)(k:Nat)(R:Rf τ)[FrT R](RR:Rp ρ)(x:τ)(v:V)(Q:VK)(s:Tx)(D:Ends)(rest:TS)(σ':V->St):(τ×ρ) ⊕ Nat->Prop
 | .inl r=>∀u W',Ext W0 W'->Same W.G W'.G->Sep W0 W' (cl.set k<|tc R r.1 v)->RR W'.G r.2 u->rest D (σ' u) W'.H
 | .inr j=>EndO W0 Wi R (isU K) v Q (x,mr s j)
theorem zb{Er:Nat->Prop}{m:Res (τ×ρ)}(S:Sep W0 W cl)(E0:Ext W0 W)(hS:Same Wi.G W.G)(hc:cl[k]? =some (tc R x v))(Z:Kin K base cs aB)(hs:xs=sOf s)(hD:D.rt=Q)
  (h:∀Er',Esc Er' cs (EX K cs s W Q) W->∀D':Ends,m.OkE Er' (λr=>∀u W',Ext W0 W'->Same W.G W'.G->Sep W0 W' (cl.set k<|tc R r.1 v)->RR W'.G r.2 u->D'.nx (σ' u) W'.H)->tb D' Y W.H)
  (q:(LF m).OkE Er (Cz K W0 W Wi cl k R RR x v Q s D rest σ')) (hi:ie<Y.length:=by first|decide|simp):
  gA (Ct (EX K cs s W Q) ie tb<|B5 K cs aB ie xs) rest D Y W.H:=by
 refine⟨h (λj=>EndO W0 Wi R (isU K) v Q (x,mr s j)) (λj hj y W' e hy=>⟨⟨y,rfl⟩,j,W',rfl,rfl,e,λu W2 e2 hu=>EndO.of (r:=(x,mr s j)) (S.ext e2) hc (E0.trans e2) (hS.trans e2.g) hu hj⟩) {D with nx:=rest D}<|Res.tryR_OkE q,λy C od oe σ1 H1 hE hx hh hl=>wH Z hs hD hE (by rw[hl];exact hi)⟩
end
structure CalI(P:GQ)(w:Ha)(K:Gp)(mg:Str->Option Gv)(base:Heap)(x:Str)(C:Addr)(ps:List Str)(k:Nat)(sp:Sp):Prop where
 ex:∃(f:Addr)(fd:GJ),Mk K C f/\FnOk P w K mg base CX0 k f fd ps sp/\mg x=some (.ref C)/\Binds K fd ps []
theorem kT{X:Cx}{x:Str}{C:Addr}{ps:List Str}{k:Nat}{sp:Sp}{p pos:Pos}{e:Expr}{es:List Expr}{t:TA}(U:CalI X.prog X.w X.K X.mg X.base x C ps k sp)(hr:Room (k+1) X.A)(hg:Gl X x)(ha:PA X (e::es) t)
  (hdb:(x==("__debug__" :Str))=false:=by decide) (he:starEach (e::es) X.env=(false,eval e X.env)::starEach es X.env:=by rfl) (hpl:(backTo pos<|starEach es X.env).any (·.1)=false:=by rfl):
  PE X (.Call (.Name x p) (e::es) [] pos) (rB C sp [] E0 t):=by
 obtain⟨f,fd,M,F,hm,hb⟩:=U.ex;exact yz M F hr hg hm hb .nil rJ ha hdb he hpl
section
variable{Er:Nat->Prop}{O ρ τ:Type}{W W0 Wi:Wd}{Y:St}{cs:List TC}{K:Gp}
def uY(R:Rf τ)(RA:Ra O)(RR:Rp ρ)(m:τ->O->Res (τ×ρ)):Sp:=λvs H Q _=>∃(W0 W:Wd)(F:FS)(x:τ)(v:V)(a:O)(us:List V),W.H=H/\vs=v::us/\Ext W0 W/\(∀q,F q->W0.H q=none)/\R W F x v/\RA W.G a us/\∃Er:Nat->Prop,(m x a).OkE Er λr=>∀u W' F',Ext W0 W'->Same W.G W'.G->(∀q,F' q->W0.H q=none)->R W' F' r.1 v->RR W'.G r.2 u->Q u W'.H
theorem CA{R:Rf τ}[FrT R]{RA:Ra O}{RR:Rp ρ}{k i:Nat}{x:τ}{v:V}{t:TA}{ma:Res O}{mf:τ->O->Res (τ×ρ)}{E:XK}{Q:VK}(S:Sep W0 W cs)(E0:Ext W0 W)(hc:cs[k]? =some (tc R x v))(hi:Y[i]? =some (some v))(ha:um Er t Y W RA ma)
  (q:(ma.bind λa=>mf x a).OkE Er λr=>∀u W',Ext W0 W'->Same W.G W'.G->Sep W0 W' (cs.set k<|tc R r.1 v)->RR W'.G r.2 u->Q u W'.H):aU (uY R RA RR mf) [] E (ah (bC i) t) Y W.H Q:=by
 refine⟨v,hi,ha W (.refl _) _<|(Gj q).imp λb kb us W2 e2 hu=>?_⟩;obtain⟨W1,F,x1,t1,n1,up⟩:=(S.ext e2).call (E0.trans e2) hc;refine⟨W1,W2,F,x,v,b,us,rfl,by simp,x1,n1,t1,hu,Er,kb.imp λr kr u W' F' e' hs hF' t' hr=>?_⟩;obtain⟨z1,z2⟩:=up W' F' r.1 e' hF' t';exact kr u W' z1 (e2.g.trans hs) z2 hr
end
section
variable{Er:Nat->Prop}{O τ:Type}{W W0:Wd}{Y:St}{cs:List TC}{K:Gp}{R:Rf τ}[FrT R]{RA:Ra O}{k i N:Nat}{x:τ}{v:V}{t:TA}{ma:Res O}{mf:τ->O->Res (τ×Dat)}{mb:Res Dat}{E E':XK}{te:TE}{D:Ends}{ts us r:TS}
theorem uo(hn:24<N)(S:Sep W0 W cs)(E0:Ext W0 W)(hc:cs[k]? =some (tc R x v))(hi:Y[i]? =some (some v))(ha:um Er t Y W RA ma)(hb:∀W',Same W.G W'.G->EV Er te Y W' (sh<|isU K) mb)
  (q:(ma.bind λa=>(mf x a).bind λy=>mb.bind λb=>(wt y.2 b).bind λc=>.ok (y.1,c)).OkE Er λy=>∀W',Ext W0 W'->Same W.G W'.G->Sep W0 W' (cs.set k<|tc R y.1 v)->if y.2=true then us D Y W'.H else ts D Y W'.H):
  jb (dn<|tB<|aU (eQ K N) [] E<|ah (aU (uY R RA (isU K) mf) [] E'<|ah (bC i) t)<|ah te aO) ts us D Y W.H:=by
 refine CA (ma:=ma) (mf:=mf) S E0 hc hi ha ?_;revert q;clear ha;cases ma with
 |err j=>exact λh=>h
 |stuck=>exact λh=>h
 |ok a=>
  intro q;have ka:((mf x a).bind λy=>mb.bind λb=>(wt y.2 b).bind λc=>.ok (y.1,c)).OkE Er _:=q;show(mf x a).OkE Er _;refine(Gj ka).imp λy ky u W' e' hs S' hu=>?_;have hC:EV Er (tC u) Y W' (sh<|isU K) (.ok y.2):=λW1 e1 Q k=>k u W1 (.refl _)<|Gm e1.g hu;have:=pJ (K:=K) (E:=E) hn hC (hb W' hs) W' (.refl _) (λz H=>∃c,z=.bl c/\if(!c)=true then ts D Y H else us D Y H) (by
   show(mb.bind λb=>wt y.2 b).OkE Er _;revert ky;cases mb with
   |ok b=>
    show((wt y.2 b).bind λc=>Gr (y.1,c)).OkE Er _->(wt y.2 b).OkE Er _;intro ky;refine(Gj ky).imp λc kc w W2 e2 hw=>⟨c,hw,?_⟩
    have z:=kc W2 (e'.trans e2) (hs.trans e2.g)<|S'.ext e2;cases c with
    |true=>exact z
    |false=>exact z
   |err j=>exact λh=>h
   |stuck=>exact λh=>h)
  exact this
theorem pQ(hn:24<N)(S:Sep W0 W cs)(E0:Ext W0 W)(hc:cs[k]? =some (tc R x v))(hi:Y[i]? =some (some v))(ha:um Er t Y W RA ma)(hb:∀W',Same W.G W'.G->EV Er te Y W' (sh<|isU K) mb)
  (q:(ma.bind λa=>(mf x a).bind λy=>mb.bind λb=>(wt y.2 b).bind λc=>.ok (y.1,c)).OkE Er λy=>∀W',Ext W0 W'->Same W.G W'.G->Sep W0 W' (cs.set k<|tc R y.1 v)->if y.2=true then us {D with nx:=r D} Y W'.H else ts {D with nx:=r D} Y W'.H):
  gA (jb (dn<|tB<|aU (eQ K N) [] E<|ah (aU (uY R RA (isU K) mf) [] E'<|ah (bC i) t)<|ah te aO) ts us) r D Y W.H:=uo (D:={D with nx:=r D}) hn S E0 hc hi ha hb q
end
end Wb
open Wb.EVo renaming tr->Qr
open Wb.EndO renaming of->Qi
open Wb.FrT renaming lv->Mo,fr->NU,ext->Pr,mu->Qq
open Wb.Lens renaming lf->Qh
open Wb.MuF renaming of->Pq
open Wb.Sep renaming one->MU
open Wb.Wd renaming sub_out->Nj
namespace L2
open PySem PySem.Spec PyProof.Rows Wb
def CC:R2:=λx y H Q=>∃p q xs,x=.ref p/\y=.ref q/\H p=some (.lst xs)/\H q=some (.lst [])/\Q (.bl xs.isEmpty) H
theorem B7{X:Cx}(hu:X.A.units<cLine):OpR X (compareOp .Eq) CC:=by
 intro Z_ s Y H x y v u Q I rx ry h;obtain⟨p,q,xs,rfl,rfl,h1,h2,hq⟩:=h;cases rx;cases ry;obtain⟨i1,r1,t1,z1⟩:=I.list<|Ic (K:=X.K) h1;obtain⟨i2,r2,t2,z2⟩:=I.list<|Ic (K:=X.K) h2;have l1:=r1.length;have l2:=r2.length;have key:SeqAt.RcAt X.A s (.ref p) (.ref q) xs.isEmpty:=by
  cases xs with
  |nil=>
   have:=Qm (A:=X.A) (s:=s) (e:=λ_=>true) t1.isList t2.isList (by rw[GG,GG,<-l1,<-l2]) hu (λj h1' h2'=>by
    have:j<i1.length:=by simpa using h1'
    rw[<-l1]at this;exact absurd this (Nat.not_lt_zero _))
   have e0:i1.toArray.size=0:=by rw[GG,<-l1];rfl
   rw[e0]at this;exact this
  |cons a r=>exact Pd t1.isList t2.isList (by simp at l1 l2 ⊢;omega) hu
 exact key _ _ _ _ ⟨.bl _,H,I,rfl,hq⟩
end L2
namespace Wb
open PySem L2 Mi
section
variable{Er:Nat->Prop}{O:Type}{W:Wd}{Y:St}{ta:TE}
theorem B8{R:Rp O}{ma:Res (List O)}(ha:EV Er ta Y W (pk R) ma):EV Er (dW CC ta<|df aO) Y W (sh isB) (ma.bind λa=>.ok a.isEmpty):=λW1 e1 Q k=>
 ha W1 e1 _ ((Gj k).imp λa ka x W2 e2 hx=>by
  obtain⟨p,vs,rfl,h1,h2⟩:=hx;refine⟨by decide,λq hq=>⟨p,q,vs,rfl,rfl,?_,ao,?_⟩⟩;·rw[ar (λz=>by rw[z]at h1;rw[hq]at h1;cases h1)];exact h1
  ·have:vs.isEmpty=a.isEmpty:=by
    have:=h2.1;cases vs<;>cases a<;>simp at this ⊢
   rw[this];exact ka (.bl a.isEmpty) (W2.mut q (.lst []) (W2.gnone hq)) (e2.trans (.own _ hq)) rfl)
end
end Wb
namespace Wb
open PySem PySem.W PySem.Calls PyProof.Rows
def pR(d:Addr)(n ep i:Nat):Obj:={cls:=.type "dict_keyiterator",dict:=none,data:=.fields #[.ref d,.int i 0,.int n 0,.int ep 0],slots:= #[]}
section
variable{prog:GQ}{w:Ha}{A:Hf}{E:Gv->Gw->Prop}{s:Gw}{d it:Addr}{o:Obj}{es:Array J9}{ep:Nat}
theorem ur{Q:Gv->Gw->Prop}(hd:(d==sysModules)=false)(ho:s.heap.get? d=some o)(hx:o.ExactDict)(hdat:o.data=.dict es ep)(hQ:Q (.ref s.heap.objs.size) {s with heap:=s.heap.push (pR d es.size ep 0)}):wpAny (model prog w) A (pyIter<|.ref d) Q E s:=by
 have hT:s.TypeIs (.ref d) "dict":=⟨o,ho,hx.1⟩
 refine LS hT NR<|HK NR hT F.entry_dict_iter ?_<|F.args_dict_iter_1 _;unfold MS.«dict.__iter__»;refine Gn ?_;unfold OO;refine Gn<|wpAny_notOrdered_dict hT ?_;show wpAny _ _ (pure<|GH d) _ _ s;refine Gy ?_;show wpAny _ _ (ME d>>=_) _ _ s;unfold ME;rw[Z2 (by rw[hd];exact GN)];refine Gn<|Gy ?_;refine Gn<|LU ho hdat ?_;refine Gn<|Mt ho hdat ?_;refine Gn<|IE<|Gy ⟨_,rfl,"dict_keyiterator",_,⟨_,GA _ rfl,rfl⟩,Ib.lookup,?_⟩;exact hQ
theorem uu{i:Nat}{Q:Option Gv->Gw->Prop}(hit:s.heap.get? it=some (pR d es.size ep i))(ho:s.heap.get? d=some o)(hdat:o.data=.dict es ep)(hi:i<es.size)
  (hQ:∀h',h'.get? it=some (pR d es.size ep<|i+1)->GW it s.heap h'->Q (some es[i].key) {s with heap:=h'}):wpAny (model prog w) A (pyNext<|.ref it) Q E s:=by
 have hT:s.TypeIs (.ref it) "dict_keyiterator":=⟨_,hit,rfl⟩
 unfold pyNext;refine Gn (J5 (HC (name:=Gq "__next__") hT Ib
  (HK Ib hT La ?_ (KY _))))
 refine Gn<|Gy ?_;refine Gn ?_;refine Gn ?_
 first|refine Gn (J7 hT<|Gy ?_)|refine Gn<|Jz hT<|Gy ?_
 refine Gn<|OA hit rfl ?_;have hown:Li "dict_keyiterator"=false:=by decide
 simp only[hown,HY,if_false];show wpAny _ _ (if(GH d==Hg)=true then _ else _) _ _ s;rw[Z2 (show ¬((GH d==Hg)=true)from GN)];refine Gn<|Gy ?_;refine Gn<|LU ho hdat ?_;rw[Z2 (by simp)];refine Gn<|Gy ?_;refine Gn<|Mt ho hdat ?_;rw[Z2 (by simp)];refine Gy ?_;simp only[show ¬((i:Int)<0)from by omega,if_false,IF,LJ hi];refine Gn ?_
 first|refine Gn (J7 hT<|Gy ?_)|refine Gn<|Jz hT<|Gy ?_
 refine Gn<|MF hT ?_;show wpAny _ _ (setField (.ref it) 1 (rawInt<|(i:Int)+1)>>=_) _ _ s;refine Gn (IH hit rfl (by simp) ?_);have hit':=HS (HJ (·.setIfInBounds 1 (rawInt<|(i:Int)+1))) hit rfl;refine Gn<|Ip ?_;refine Gn (MF (s:={s with heap:=s.heap.update it (HJ (·.setIfInBounds 1 (rawInt<|(i:Int)+1)))}) ⟨_,hit',rfl⟩ ?_);show wpAny _ _ (pure es[i].key) _ _ _;exact Gy<|Gy ⟨_,rfl,Gy<|hQ _ (hit'.trans rfl)<|Jd ..⟩
theorem wR{Q:Option Gv->Gw->Prop}(hh:A.handled=none)(hit:s.heap.get? it=some (pR d es.size ep es.size))(ho:s.heap.get? d=some o)(hdat:o.data=.dict es ep)
  (hQ:∀h',Jk it s.heap h'->Q none {s with heap:=h'}):wpAny (model prog w) A (pyNext<|.ref it) Q E s:=by
 have hT:s.TypeIs (.ref it) "dict_keyiterator":=⟨_,hit,rfl⟩
 unfold pyNext;refine Gn (J5 (HC (name:=Gq "__next__") hT Ib
  (HK Ib hT La ?_ (KY _))))
 refine Gn<|Gy ?_;refine Gn ?_;refine Gn ?_
 first|refine Gn (J7 hT<|Gy ?_)|refine Gn<|Jz hT<|Gy ?_
 refine Gn<|OA hit rfl ?_;have hown:Li "dict_keyiterator"=false:=by decide
 simp only[hown,HY,if_false];show wpAny _ _ (if(GH d==Hg)=true then _ else _) _ _ s;rw[Z2 (show ¬((GH d==Hg)=true)from GN)];refine Gn<|Gy ?_;refine Gn<|LU ho hdat ?_;rw[Z2 (by simp)];refine Gn<|Gy ?_;refine Gn<|Mt ho hdat ?_;rw[Z2 (by simp)];refine Gy ?_;simp only[show ¬((es.size:Int)<0)from by omega,if_false,IF,Array.getElem?_eq_none<|GO es.size];refine Gn ?_
 first|refine Gn (J7 hT<|Gy ?_)|refine Gn<|Jz hT<|Gy ?_
 show wpAny _ _ (setField (.ref it) 0 .none>>=_) _ _ s;refine Gn (IH hit rfl (by simp) ?_);show wpAny _ _ (newExc (.type "StopIteration") []>>=_) _ _ _;refine Gn ?_;simp only[newExc,newTuple];refine Gn (IE ?_ (by size_fits));refine Gn (m:=firstArgMember _ _) (NY (a:=Hg) (by first|rfl|(simp only[firstArgMember];rfl)) ?_);refine IE ?_ (by size_fits);simp only[raiseNew];refine Gn<|N0 ?_;rw[show A.in1.handled=none from hh];refine Gn<|Gy<|NZ ?_;refine Gn<|J4 (T:="StopIteration") (b:=true) ⟨_,GA _ rfl,rfl⟩ Jn ?_;exact Gy<|hQ _<|((Jd ..).extBut.push _).push _
end
end Wb
namespace Mi
abbrev Cd:=Tx×Tx×Int
abbrev Pl:=Tx×Tx×Tx
abbrev Ii:=Int×Int
def cf{κ O:Type}[DecidableEq κ](kvs:List (κ×O))(k:κ)(z:O):O:=(look kvs k).getD z
end Mi
namespace L2
open PySem PySem.Spec PyProof.Rows
section
variable{X:Cx}
theorem gG(i:Nat){x:Str}{pos:Pos}(hN:X.N.Nodup:=by exact Qa (by assumption))(hi:X.N[i]? =some x:=by rfl)(hx:Aq X.env.scope x:=by first|exact Ky rfl|exact Km rfl)(hf:X.fn x=true\/X.env.scope.names.lookup x=some .local:=by first|exact .inl rfl|exact .inr rfl|assumption):PG X (.Name x pos) (bc i):=aJ hN hi hx hf
theorem fh(i:Nat){x:Str}{e:Expr}{te:TE}{pos pos':Pos}(he:PE X e te)(hN:X.N.Nodup:=by exact Qa (by assumption))(hi:X.N[i]? =some x:=by rfl)(hx:Aq X.env.scope x:=by first|exact Ky rfl|exact Km rfl)(hs:swapsWith e (some<|.Name x pos') pos.line X.env=pure false:=by rfl)(hf:X.fn x=true\/X.env.scope.names.lookup x=some .local:=by first|exact .inl rfl|exact .inr rfl|assumption):PS X (.Assign [.Name x pos'] e pos) (cH te<|bc i):=gB hN hi hx he hs hf
theorem eK{x:Str}{ps:List Str}{k:Nat}{sp:Sp}{p pos:Pos}{e:Expr}{es:List Expr}{t:TA}(C:Cal X.prog X.w X.K X.mg X.base x ps k sp)(ha:PA X (e::es) t)(hr:Room k X.A:=by exact Room.mono (by assumption) ⋯)(hg:Gl X x:=by rfl)
  (hdb:(x==("__debug__" :Str))=false:=by decide) (he:starEach (e::es) X.env=(false,eval e X.env)::starEach es X.env:=by rfl) (hpl:(backTo pos<|starEach es X.env).any (·.1)=false:=by rfl):PE X (.Call (.Name x p) (e::es) [] pos) (aU sp [] E0 t):=vP C hr hg ha hdb he hpl
end
end L2
namespace Wb
open PySem L2 Mi
section
variable{Er:Nat->Prop}{W:Wd}{Y:St}{te:TE}{D:Ends}{r:TS}{i:Nat}
theorem bO{i:Nat}{a:Int}(h:Y[i]? =some (some<|.int a):=by rfl):EV Er (bC i) Y W (sh isI) (.ok a):=aY (R:=sh isI) (v:=.int a) rfl h
theorem cS{i:Nat}{a:Tx}(h:Y[i]? =some (some<|.str<|sOf a):=by rfl):EV Er (bC i) Y W (sh isS) (.ok a):=aY (R:=sh isS) (v:=.str<|sOf a) rfl h
theorem EU{i:Nat}{a:Bool}(h:Y[i]? =some (some<|.bl a):=by rfl):EV Er (bC i) Y W (sh isB) (.ok a):=aY (R:=sh isB) (v:=.bl a) rfl h
theorem ba{O:Type}{R:Rp O}[Mono R]{i:Nat}{a:O}{v:V}(r:R W.G a v)(h:Y[i]? =some (some v):=by rfl):EV Er (bC i) Y W (sh R) (.ok a):=aY (R:=sh R) r h
end
abbrev qA(K:Gp):=isT3 K isS isS isI
abbrev qB(K:Gp):=isT3 K isS isS isS
abbrev qD(K:Gp):=isL<|qB K
def DI(K:Gp)(x:Str)(st:Stmt)(ps:List Str):Prop:=∃f fd,Fun K x x st f fd/\Iu K mainGlobals x=some (some<|.ref f)/\Binds K fd ps []
section
variable{P:GQ}{w:Ha}{K:Gp}{mg:Str->Option Gv}{base h:Heap}{x:Str}{st:Stmt}{ps:List Str}{n:Nat}{sp:Sp}{f:Addr}
def B9:List Str->List Gv->List Gv
 | [],_=>[]
 |_::r,us=>us.headD .none::B9 r us.tail
theorem qU:∀(ps:List Str)(us:List Gv),us.length=ps.length->B9 ps us=us
 | [],us,h=>(List.eq_nil_of_length_eq_zero h).symm
 |_::r,[],h=>by cases h
 |_::r,a::us,h=>by
  show a::B9 r us=_;rw[qU r us<|Nat.succ.inj h]
theorem DI.mk{oc:Gv}{od an:Option Addr}{osl:Array (Option Gv)}{kV doc pm Z9 ct:Gv}(da:Iu K mainGlobals x=some (some<|.ref f))(dl:K.lookup f=some ⟨oc,od,.func<|IU x x (defArgs st) (defBody st) (defScope st) .none kV doc pm an Z9 ct,osl⟩)
  (dc:K7 K Z9 x=true) (dk:I9 K (.ref f)=true) (db:∀(kV doc pm:Gv)(an:Option Addr)(Z9 ct:Gv)(us:List Gv),bindArgs (IU x x (defArgs st) (defBody st) (defScope st) .none kV doc pm an Z9 ct) ⟨B9 ps us,[]⟩=pure (ps.zip<|B9 ps us)):DI K x st ps:=
 ⟨f,_,lp dl dc dk,da,(lp dl dc dk).binds λkV doc pm an Z9 ct us hl=>by
  have:=db kV doc pm an Z9 ct us;rw[qU ps us hl]at this;exact this⟩
theorem DI.cal(d:DI K x st ps)(X:K.In h)(G:h.Ns mainGlobals mg)(r:∀{f fd},Fun K x x st f fd->FnOk P w K mg base CX0 n f fd ps sp):Cal P w K mg base x ps n sp:=by
 obtain⟨f,fd,F,a,b⟩:=d;exact⟨f,fd,r F,Hk X G a,F.kp,b⟩
theorem DI.calR(d:DI K x st ps)(X:K.In h)(G:h.Ns mainGlobals mg)(r:∀{f fd},Fun K x x st f fd->FnOk P w K mg base (CXR P w) n f fd ps sp):CalR P w K mg base x ps n sp:=by
 obtain⟨f,fd,F,a,b⟩:=d;exact⟨f,fd,r F,Hk X G a,F.kp,b⟩
end
end Wb
namespace L2
open PySem PySem.Spec PyProof.Rows Wb
section
variable{X:Cx}{Z_:List (Addr×Obj)}{Y:St}{H:Hp}{s:Gw}{a:Addr}{kvs:List (Key×V)}
theorem Inv.frzD{o:Obj}(I:Inv X Z_ Y H s)(e:H a=some (.dK kvs))(ho:s.heap.get? a=some o):Inv X Z_ Y (cN H a<|.frz o<|.dK kvs) s:=by
 have ne:∀b u,H b=some u->(∀l,u≠.dK l)->b≠a:=λb u q n z=>by subst z;rw[e]at q;cases q;exact n _ rfl
 have na:∀b,H b=none->b≠a:=λb n z=>by subst z;rw[e]at n;cases n
 refine I.un (t':=s.toks) (h':=s.heap) ⟨λb o q _ _ _=>q,λb o q _ _ _=>⟨o.slots,q⟩,λb o _ n _=>by rw[ar<|na b n];exact n,λb o q _=>⟨o,q⟩,λb xs q=>by rw[ar (ne b _ q λ_ z=>nomatch z)];exact q,λb o u q=>by rw[ar (ne b _ q λ_ z=>nomatch z)];exact q,λb ps q=>⟨#[],by rw[ar (ne b _ q λ_ z=>nomatch z),q];simp⟩⟩ ?_;exact I.hok.write (by rw[e];trivial) (.inl rfl) (λb u _ q=>q) ⟨o,ho⟩ ⟨ho,I.hok a _ e⟩
theorem Inv.objD(I:Inv X Z_ Y H s)(e:H a=some (.dK kvs)):∃o,s.heap.get? a=some o:=by
 obtain⟨_,_,vs,_,o,_,_,ho,_⟩:=I.hok a _ e;exact⟨o,ho⟩
end
def EF(i:Nat)(t:TS):TS:=λD Y H=>∃a kvs,Y[i]? =some (some<|.ref a)/\H a=some (.dK kvs)/\∀o,t D Y<|cN H a<|.frz o<|.dK kvs
theorem sy{X:Cx}{st:Stmt}{t:TS}{i:Nat}(h:PS X st t):PS X st (EF i t):=λZ_ s Y H D I⟨a,kvs,_,e,q⟩=>by
 obtain⟨o,ho⟩:=I.objD e;exact h Z_ s Y _ D (I.frzD e ho)<|q o
def CD(t:TE):TE:=λY H Q=>t Y H λv H1=>∃a kvs,v=.ref a/\H1 a=some (.dK kvs)/\∀o,Q v<|cN H1 a<|.frz o<|.dK kvs
theorem wU{X:Cx}{e:Expr}{t:TE}(h:PE X e t):PE X e (CD t):=λZ_ s Y H Q I q=>cG (h Z_ s Y H _ I q) λu s1⟨x,H1,I1,r1,a,kvs,ex,ea,q1⟩=>by
 obtain⟨o,ho⟩:=I1.objD ea;exact⟨x,_,I1.frzD ea ho,r1,q1 o⟩
theorem gy{X:Cx}:ei X (.type "dict") (λxs H Q=>∃a kvs,xs=[.ref a]/\Rd H a (.dK kvs)/\∀p,H p=none->Q (.ref p) (cN H p<|.dK kvs)):=by
 intro Z_ s Y H xs us Q I r ⟨a,kvs,e,ea,q⟩;subst e;cases r with
 |cons r1 r2=>
  cases r2;cases (show _=GH a from r1);exact vD I ea λp s' hp I'=>⟨.ref p,_,I',rfl,q p hp⟩
def EY(a:Addr)(o:Obj)(kvs:List (Key×V)):It:=⟨λi H=>H a=some (.frz o<|.dK kvs)/\i<kvs.length,λi H x H'=>H'=H/\∃kv,kvs[i]? =some kv/\x=kV kv.1,λi H=>H a=some (.frz o<|.dK kvs)/\i=kvs.length⟩
theorem lP{P:GQ}{w:Ha}{h:Heap}{H:Hp}{a:Addr}{o:Obj}{kvs:List (Key×V)}(ok:HOk P w H h)(e:H a=some (.frz o<|.dK kvs)):h.get? a=some o/\kvs.length<=sizeLine/\(a==sysModules)=false/\∃vs es ep,KV kvs vs/\o.ExactDict/\o.data=.dict es ep/\KeysOf (bK P w) es/\Pairs (bK P w) es.toList vs/\(vs.map (·.1)).Nodup:=by
 obtain⟨ho,z,lo,vs,rel,o',es,ep,ho',hx,hd,hk,hp,hn⟩:=ok a _ e;rw[ho]at ho';cases ho';exact⟨ho,z,lo,vs,es,ep,rel,hx,hd,hk,hp,hn⟩
theorem Ae{P:GQ}{w:Ha}{k:Key}{u:Gv}(h:(bK P w).is k u=true):RelV (kV k) u:=by
 rcases cu (show gI k u=true from h)with⟨i,t,rfl,rfl⟩|⟨x,t,rfl,rfl⟩
 ·exact⟨t,rfl⟩
 ·exact⟨t,rfl⟩
theorem wV{P:GQ}{w:Ha}{es:List J9}{vs:List (Key×Gv)}{kvs:List (Key×V)}(hp:Pairs (bK P w) es vs)(rel:KV kvs vs){i:Nat}{e:J9}(h:es[i]? =some e):∃kv,kvs[i]? =some kv/\RelV (kV kv.1) e.key/\RelV kv.2 e.val:=by
 have hi:i<vs.length:=by have:=(Gx.mp h).1;rw[<-hp.length];exact this
 obtain⟨p,h1,h2,h3⟩:=iy rel<|Hj hi;obtain⟨h4,h5⟩:=hp.get? h<|Hj hi;exact⟨p,h1,by rw[h2];exact Ae h4,by rw[h5];exact h3⟩
theorem qV{P:GQ}{w:Ha}{K:Gp}{tg:Expr}{a it:Addr}{o:Obj}{es:Array J9}{ep:Nat}{kvs:List (Key×V)}(hdat:o.data=.dict es ep)(hs:es.size=kvs.length):Turn P w K tg (EY a o kvs) [it] it (λi h=>h.get? it=some (pR a es.size ep i)) where
 mem:=by simp
 obj:=λi h st b hb=>by
  have e:b=it:=by simpa using hb
  subst e;exact⟨_,st,λv z=>by
   have z':LM _=Kb v:=z;cases z'⟩
 keep:=λi h h' st k=>k it (by simp) _ st
 item:=by
  intro X hP hw hK hc i Z_ s Y H E I hf st hg;subst hP hw hK;obtain⟨ha,hi⟩:=hg;obtain⟨f0,f1,f2,f3,f4,f5⟩:=hf it (by simp);obtain⟨ho,z,lo,vs,es',ep',rel,hx,hd',hk,hp,hn⟩:=lP I.hok ha;rw[hdat]at hd';cases hd';have hi':i<es.size:=by omega
  refine uu st ho hdat hi' λh' st' sb=>?_;have I1:Inv X Z_ Y H {s with heap:=h'}:=I.turned (t':=s.toks) (λb o hb e=>(sb.2 b hb).trans e) f0 f1 f3 f4 f5;obtain⟨kv,h1,h2,_⟩:=wV hp rel (i:=i) (e:=es[i]) (by rw[KH,LJ hi']);exact⟨_,rfl,oO (s:={s with heap:=h'}) (n:="dict_keyiterator") st' rfl rfl ⋯ ⟨kV kv.1,H,I1,h2,⟨rfl,kv,h1,rfl⟩,st',λb hb=>(hf b hb).1⟩⟩
 done:=by
  intro X hP hw hK hc i Z_ s Y H E I hf st hg;subst hP hw hK;obtain⟨ha,hi⟩:=hg;obtain rfl:i=es.size:=by omega
  obtain⟨f0,f1,f2,f3,f4,f5⟩:=hf it (by simp);obtain⟨ho,_⟩:=lP I.hok ha;exact wR (I.ok.hd hc) st ho hdat λh' eb=>⟨rfl,I.turned (t':=s.toks) (λb o hb e=>eb b o hb e) f0 f1 f3 f4 f5⟩
 self:=λA i s Q E st hQ=>by
  have hT:s.TypeIs (.ref it) "dict_keyiterator":=⟨_,st,rfl⟩
  refine LS hT Lj<|HK Lj hT F.entry_dict_keyiterator_iter ?_<|F.args_dict_keyiterator_iter_1 _;show wpAny _ _ (ret<|.ref it) _ _ s;exact Gy ⟨_,rfl,"dict_keyiterator",_,hT,Ib.lookup,hQ⟩
def wW(tl:TE):TI:=λY H R=>tl Y H λx H1=>∃a o kvs,x=.ref a/\H1 a=some (.frz o<|.dK kvs)/\R (EY a o kvs) H1
section
variable{X:Cx}{pos Z7:Pos}{tg l:Expr}{tl:TE}
theorem wX(hl:PE X l tl):PI X tg l (wW tl):=by
 intro Z_ s Y H R I h;refine cG (hl Z_ s Y H _ I h) λv s1 zz=>?_;obtain⟨x,H1,I1,r1,q1⟩:=zz;obtain⟨a,ob,kvs,e,ha,q⟩:=q1;subst e;cases r1;obtain⟨ho,z,lo,vs,es,ep,rel,hx,hdat,hk,hp,hn⟩:=lP I1.hok ha;have hs:es.size=kvs.length:=by have:=hp.length;rw[<-HU,this];exact(Paired.length rel).symm
 refine ur lo ho hx hdat ?_;refine⟨s1.heap.objs.size,[s1.heap.objs.size],_,_,H1,rfl,I1.kept (t':=s1.toks) λb o e=>Gu _ e,qV hdat hs,GA _ rfl,λb hb=>?_,q⟩;have e:b=s1.heap.objs.size:=by simpa using hb
 subst e;exact I1.fpOk (GO _)<|I1.hok.fresh<|GO _
end
def EZ(a:Addr)(o:Obj)(kvs:List (Key×V)):It:=⟨λi H=>H a=some (.frz o<|.dK kvs)/\i<kvs.length,λi H x H'=>∃T kv,H T=none/\x=.ref T/\kvs[i]? =some kv/\H'=cN H T (.tup [kV kv.1,kv.2]),λi H=>H a=some (.frz o<|.dK kvs)/\i=kvs.length⟩
theorem jX{P:GQ}{w:Ha}{h:Heap}{H:Hp}{a:Addr}{o:Obj}{kvs:List (Key×V)}(ok:HOk P w H h)(e:H a=some (.frz o<|.dK kvs)):∃es ep,o.data=.dict es ep/\∃vs,KV kvs vs/\h.DictAt (bK P w) a vs ep:=by
 obtain⟨ho,z,lo,vs,es,ep,rel,hx,hd,hk,hp,hn⟩:=lP ok e;exact⟨es,ep,hd,vs,rel,o,es,ho,hx,hd,hk,hp,hn⟩
theorem qW{P:GQ}{w:Ha}{K:Gp}{Z5:List Expr}{kk:Nat}{tp:Pos}{a it:Addr}{o:Obj}{es:Array J9}{ep:Nat}{kvs:List (Key×V)}(hdat:o.data=.dict es ep):Turn P w K (.Tuple Z5 kk tp) (EZ a o kvs) [it] it (λi h=>∃ok ov,IsItemIter h it a i kvs.length ep ok ov) where
 mem:=by simp
 obj:=λi h st b hb=>by
  obtain⟨ok,ov,st⟩:=st;have e:b=it:=by simpa using hb
  subst e;exact⟨_,st,λv z=>by
   have z':LM _=Kb v:=z;cases z'⟩
 keep:=λi h h'⟨ok,ov,st⟩k=>⟨ok,ov,k it (by simp) _ st⟩
 item:=by
  intro X hP hw hK hc i Z_ s Y H E I hf st hg;subst hP hw hK;obtain⟨ha,hi⟩:=hg;obtain⟨ok,ov,st⟩:=st;obtain⟨es',ep',hd',vs,rel,dat⟩:=jX I.hok ha;rw[hdat]at hd';cases hd';have hl:kvs.length=vs.length:=Paired.length rel;have hiv:i<vs.length:=by omega
  obtain⟨kv,h1,h2,h3⟩:=iy rel<|Hj hiv;have lt:∀{c o},s.heap.get? c=some o->c≠s.heap.objs.size:=λe=>GV<|GF e;have nT:H s.heap.objs.size=none:=I.hok.fresh<|GO _;have ni:it≠s.heap.objs.size:=lt st;refine wpAny_pyNext_items_item (by rw[<-hl];exact st) dat (k:=vs[i].1) (v:=vs[i].2) (Hj hiv) λkey h' hkey ho hT hsz hk=>?_;refine⟨_,rfl,wpAny_letOwnedTupleGo_items ho λh2' he2 sb=>?_⟩;have kp2:∀b o,b∉[it]->s.heap.get? b=some o->h2'.get? b=some o:=λb o hb q=>by
   have hb:b≠it:=λz=>hb (by simp[z]);exact(sb.2 b hb).trans (hk b o hb q)
  have ik:∀b u,H b=some u->b∉[it]/\b≠s.heap.objs.size:=λb u q=>⟨λhb=>(by rw[(hf b hb).1]at q;cases q),λz=>(by rw[z,nT]at q;cases q)⟩
  have I2:Inv X Z_ Y (cN H s.heap.objs.size<|.tup [kV kv.1,kv.2]) {s with heap:=h2',gens:=s.gens,drawn:=s.drawn,toks:=s.toks}:=by
   refine I.step (g':=s.gens) (d':=s.drawn) (t':=s.toks) (ch:=[it]) (λb hb=>⟨(hf b hb).2.2.2.1,(hf b hb).2.1,(hf b hb).2.2.2.2.1,(hf b hb).2.2.2.2.2⟩) (λb o _ _ hb q _=>kp2 b o hb q) (λb o _ _ hb q _=>⟨o.slots,kp2 b o hb q⟩)
    (λb o hb q n=>by rw[ar<|lt q];exact n) (λb o hb q=>⟨o,kp2 b o hb q⟩) (λb xs q=>by rw[ar (ik b _ q).2];exact q) (λb o u q=>by rw[ar (ik b _ q).2];exact q) (λb ps q=>⟨#[],by rw[ar (ik b _ q).2,q];simp⟩) (λm hm=>?_) (λb u q=>?_) I.bare
   ·obtain⟨o,es,ep,ho',r⟩:=hm;exact⟨o,es,ep,kp2 _ o (λhb=>(hf _ hb).2.1 rfl) ho',r⟩
   ·by_cases hb:b=s.heap.objs.size
    ·subst hb;rw[ao]at q;cases q;exact⟨(by show 2<=sizeLine;rw[HR];decide),[key,vs[i].2],.cons (by rw[h2];exact Ae hkey)<|.cons h3 .nil,⟨_,(sb.2 _<|HW ni).trans hT,⟨rfl,rfl⟩,_,rfl⟩⟩
    ·rw[ar hb]at q;refine(I.hok b u q).stay (λc v hc z=>kp2 c v ?_ z) (λc z=>by rw[ar (ik c _ z).2];exact z) λc xs z=>by rw[ar (ik c _ z).2];exact z
     rcases hc with z|z;·rw[z];exact(ik b u q).1
     ·exact(ik c _ z).1
  refine⟨.ref s.heap.objs.size,_,I2,rfl,⟨_,kv,nT,rfl,h1,rfl⟩,⟨_,_,by rw[hl];exact he2⟩,λb hb=>?_⟩;have e:b=it:=by simpa using hb
  subst e;rw[ar ni];exact(hf b hb).1
 done:=by
  intro X hP hw hK hc i Z_ s Y H E I hf st hg;subst hP hw hK;obtain⟨ha,hi⟩:=hg;obtain⟨ok,ov,st⟩:=st;obtain⟨es',ep',hd',vs,rel,dat⟩:=jX I.hok ha;rw[hdat]at hd';cases hd';have hl:kvs.length=vs.length:=Paired.length rel;obtain⟨f0,f1,f2,f3,f4,f5⟩:=hf it (by simp);exact wpAny_pyNext_items_end (I.ok.hd hc) (by rw[<-hl];exact st) dat (by simp;omega) λh' eb=>⟨rfl,I.turned (t':=s.toks) (λb o hb e=>eb b o hb e) f0 f1 f3 f4 f5⟩
 self:=λA i s Q E st hQ=>by
  obtain⟨ok,ov,st⟩:=st;have hT:s.TypeIs (.ref it) "dict_itemiterator":=⟨_,st,rfl⟩
  refine LS hT Lb (HK Lb hT (entryFor_alias (id':="dict_keyiterator.__iter__") (by kernel_rfl) rfl ⋯ (by kernel_rfl):entryFor table "dict_itemiterator.__iter__"=some MS.«dict_keyiterator.__iter__») ?_<|F.args_dict_itemiterator_iter_1 _);show wpAny _ _ (ret<|.ref it) _ _ s;exact Gy ⟨_,rfl,"dict_itemiterator",_,hT,F.slot_dict_itemiterator_next.lookup,hQ⟩
def wY(tl:TE):TI:=λY H R=>tl Y H λx H1=>∃a o kvs,x=.ref a/\H1 a=some (.frz o<|.dK kvs)/\R (EZ a o kvs) H1
section
variable{X:Cx}{Z8 Z7 tp:Pos}{Z5:List Expr}{kk:Nat}{l:Expr}{tl:TE}
theorem wZ(hl:PE X l tl)(hbase:attributeBase l "items" X.env (eval l X.env)=eval l X.env:=by rfl)(hline:(Z7.endLine==Z8.line)=true:=by rfl):PI X (.Tuple Z5 kk tp) (.Call (.Attribute l "items" Z7) [] [] Z8) (wY tl):=by
 intro Z_ s Y H R I h;refine Kq hbase hline<|cG (hl Z_ s Y H _ I h) λv s1 zz=>?_;obtain⟨x,H1,I1,r1,q1⟩:=zz;obtain⟨a,ob,kvs,e,ha,q⟩:=q1;subst e;obtain rfl:v=GH a:=r1;obtain⟨t1,t2,_⟩:=qH I1<|.inl ⟨kvs,.inr ⟨ob,ha⟩⟩;obtain⟨ho,z,lo,_⟩:=lP I1.hok ha;obtain⟨es,ep,hdat,vs,rel,dat⟩:=jX I1.hok ha;have hlen:kvs.length=vs.length:=Paired.length rel;refine⟨"dict","dict.items",Kr,M6,PySem.F.type_dict_items,t1,λb hb=>by cases hb;exact t2 _ rfl,Ji rfl<|Ll ?_⟩;refine Mh M6 dat.dictOf.typeIs PySem.F.entry_dict_items (PySem.F.args_dict_items_1 _) (meets_dict_items (bK X.prog X.w) a lo) ⟨⟨vs,dat.dictOf⟩,?_⟩;have dat2:=dat.push {cls:=.type "dict_items",data:=.fields #[.ref a]};refine wpAny_pyIter_items (s:={s1 with heap:=s1.heap.push {cls:=.type "dict_items",data:=.fields #[.ref a]}}) ⟨_,GA _ rfl,rfl,rfl⟩ dat2 ?_;have I2:Inv X Z_ Y H1 {s1 with heap:=s1.heap.push {cls:=.type "dict_items",data:=.fields #[.ref a]}}:=I1.kept (t':=s1.toks) λb o e=>Gu _ e;refine⟨_,[(s1.heap.push {cls:=.type "dict_items",data:=.fields #[.ref a]}).objs.size],_,_,H1,rfl,I2.kept (t':=s1.toks) λb o e=>Gu _ e,qW (kvs:=kvs) hdat,⟨.none,.none,?_⟩,λb hb=>?_,q⟩;·rw[hlen];exact GA _ rfl
 ·have e:b=(s1.heap.push {cls:=.type "dict_items",data:=.fields #[.ref a]}).objs.size:=by simpa using hb
  subst e;exact I2.fpOk (GO _)<|I2.hok.fresh<|GO _
end
end L2
namespace Wb
open PySem L2 Mi
section
variable{Er:Nat->Prop}{O B:Type}{t ta tb tc te ti:TE}{Y:St}{W W0 W':Wd}{K:Gp}{D:Ends}{i:Nat}{r ts:TS}
def DR(g:B->Key)(R:Rp O)(G:Hp)(xs:List (B×O))(kv:List (Key×V)):Prop:=kv.length=xs.length/\∀(i:Nat)(q:Key×V)(x:B×O),kv[i]? =some q->xs[i]? =some x->q.1=g x.1/\R G x.2 q.2
def isDk(g:B->Key)(R:Rp O):Rp (List<|B×O):=λG xs v=>∃p o kv,v=.ref p/\G p=some (.frz o<|.dK kv)/\DR g R G xs kv
def pkD(g:B->Key)(R:Rp O):Rw (List<|B×O):=λW xs v=>∃p kv,v=.ref p/\Rd W.H p (.dK kv)/\DR g R W.G xs kv
variable{g:B->Key}{R:Rp O}[Mono R]
theorem DR.same{G G':Hp}{xs:List (B×O)}{kv:List (Key×V)}(h:DR g R G xs kv)(e:Same G G'):DR g R G' xs kv:=⟨h.1,λi q x a b=>⟨(h.2 i q x a b).1,Gm e (h.2 i q x a b).2⟩⟩
instance zkeep72:Mono (isDk g R):=⟨λe⟨p,o,kv,h1,h2,h3⟩=>⟨p,o,kv,h1,e _ _ h2,h3.same e⟩⟩
theorem Rd.same{H H':Hp}{p:Addr}{u:HO}(h:Rd H p u)(e:Same H H'):Rd H' p u:=by
 rcases h with h|⟨o,h⟩
 ·exact .inl<|e _ _ h
 ·exact .inr ⟨o,e _ _ h⟩
instance zkeep73:MonoW (pkD g R):=⟨λe⟨p,kv,h1,h2,h3⟩=>⟨p,kv,h1,Rd.same h2 e.h,h3.same e.g⟩⟩
theorem pkD.of{xs:List (B×O)}{v:V}(h:isDk g R W.G xs v):pkD g R W xs v:=by
 obtain⟨p,o,kv,a,b,c⟩:=h;exact⟨p,kv,a,.inr ⟨o,W.ok _ _ b⟩,c⟩
theorem EV.pkD{m:Res (List<|B×O)}(h:EV Er t Y W (sh<|isDk g R) m):EV Er t Y W (pkD g R) m:=h.imp λ_ _ _ r=>pkD.of r
theorem OwD.pkD{p:Addr}{xs:List (B×O)}(o:OwD g R W p xs):pkD g R W xs (.ref p):=by
 obtain⟨kv,a,b⟩:=o.h;exact⟨p,kv,rfl,.inl a,b⟩
theorem ow{p:Addr}{xs:List (B×O)}(o:OwD g R W p xs)(h:Y[i]? =some (some<|.ref p):=by rfl):EV Er (bC i) Y W (Wb.pkD g R) (.ok xs):=aY o.pkD h
theorem lQ[DecidableEq B]{Rk:Rp B}{ma:Res (List<|B×O)}{mk:Res B}(hg:∀a b,g a=g b->a=b)(hk:∀H b v,Rk H b v->v=kV (g b))(ha:EV Er ta Y W (Wb.pkD g R) ma)(h:EV Er tb Y W (sh Rk) mk):
  EV Er (A5 ta tb) Y W (sh R) (ma.bind λd=>mk.bind λk=>getD d k):=λW1 e1 Q k=>ha W1 e1 _ ((Gj k).imp λxs kx x W2 e2 hx=>h W2 (e1.trans e2) _ ((Gj kx).imp λb kb v W3 e3 hv=>by
  obtain⟨a,h1,h2⟩:=dJ kb;obtain⟨p,kv,rfl,o1,o2,o3⟩:=GX e3 hx;have hl:=fE hg kv xs o2 o3 b;rw[h1]at hl;obtain⟨u,hu,ru⟩:=hl;refine⟨p,u,rfl,?_,h2 u W3 (e2.trans e3) ru⟩;rw[hk _ _ _ hv,<-hu];exact .inl ⟨kv,g b,o1,rfl,rfl⟩))
theorem i4[DecidableEq B]{Rk:Rp B}{ma:Res (List<|B×O)}{mk:Res B}{mz:Res O}(hg:∀a b,g a=g b->a=b)(hk:∀H b v,Rk H b v->v=kV (g b))(ha:EV Er ta Y W (Wb.pkD g R) ma)(h:EV Er tb Y W (sh Rk) mk)(hz:EV Er tc Y W (sh R) mz):
  EV Er (vC ta tb tc) Y W (sh R) (ma.bind λd=>mk.bind λk=>mz.bind λz=>.ok<|cf d k z):=λW1 e1 Q k=>ha W1 e1 _ ((Gj k).imp λxs kx x W2 e2 hx=>by
  obtain⟨p,kv,rfl,o1,o⟩:=id hx;refine⟨p,rfl,.inl ⟨kv,o1⟩,h W2 (e1.trans e2) _<|(Gj kx).imp λb kb v W3 e3 hv=>hz W3 ((e1.trans e2).trans e3) _<|(Gj kb).imp λz kz u W4 e4 hu=>?_⟩;have o':=o.same (e3.trans e4).g;have hl:=fE hg kv xs o'.1 o'.2 b;refine⟨fq kv<|g b,by rw[hk _ _ _ hv];exact .inl ⟨kv,g b,Rd.same o1 (e3.trans e4).h,rfl,rfl⟩,?_⟩;have kz:∀v W',Ext W1 W'->sh R W' (cf xs b z) v->Q v W'.H:=kz;refine kz _ W4 ((e2.trans e3).trans e4) ?_;unfold cf;cases q:look xs b with
  |none=>
   rw[q]at hl;have hl:fq kv (g b)=none:=hl;rw[hl];exact hu
  |some a=>
   rw[q]at hl;obtain⟨v',h1,h2⟩:=hl;rw[h1];exact h2)
theorem i5{ma:Res (List<|B×O)}(ha:EV Er ta Y W (Wb.pkD g R) ma):EVd Er (f9 (λxs H Q=>∃a kvs,xs=[.ref a]/\Rd H a (.dK kvs)/\∀p,H p=none->Q (.ref p) (cN H p<|.dK kvs))<|ah ta aO) Y W g R ma:=λW1 e1 Q k=>
 ha W1 e1 _ (k.imp λxs kx x W2 e2 hx=>by
  obtain⟨p,kv,rfl,o1,o⟩:=hx;exact⟨p,kv,rfl,o1,λq hq=>kx q (W2.mut q (.dK kv) (W2.gnone hq)) (e2.trans (.own _ hq)) (none_of e2.h hq) ⟨W2.gnone hq,kv,ao,o⟩⟩)
theorem EVd.ev{m:Res (List<|B×O)}(h:EVd Er t Y W g R m):EV Er (CD t) Y W (sh<|isDk g R) m:=λW1 e1 Q k=>h W1 e1 _ (k.imp λxs kx p W2 e2 hp o=>by
 obtain⟨kv,o1,o2⟩:=o.h;refine⟨p,kv,rfl,o1,λob=>?_⟩
 let W3:Wd:=W2.new p (.frz ob<|.dK kv)
 have a0:Same W2.G W3.G:=ej o.g;have e3:Ext W1 W3:=⟨e2.g.trans a0,λa u z=>by
  show cN W2.H p _ a=_;rw[ar<|cW z hp];exact e2.h _ _ z,λq hq=>by
  show cN W2.G p _ q=_;rw[ar (λz=>hq (by rw[z];exact hp))];exact e2.k q hq⟩
 exact kx (.ref p) W3 e3 ⟨p,ob,kv,rfl,ao,DR.same (R:=R) o2 a0⟩)
theorem sA{p:Addr}{xs:List (B×O)}(o:OwD g R W p xs)(E:Ext W0 W)(fr:W0.H p=none)(q:∀W',Ext W0 W'->Same W.G W'.G->isDk g R W'.G xs (.ref p)->(∀b,b≠p->W'.H b=W.H b/\W'.G b=W.G b)->ts D Y W'.H)(hi:Y[i]? =some (some<|.ref p):=by rfl):EF i ts D Y W.H:=by
 obtain⟨kv,o1,o2⟩:=o.h;refine⟨p,kv,hi,o1,λob=>?_⟩
 let W3:Wd:=W.new p<|.frz ob<|.dK kv
 have a0:Same W.G W3.G:=ej o.g;exact q W3 ⟨E.g.trans a0,λa u z=>by
  show cN W.H p _ a=_;rw[ar<|cW z fr];exact E.h _ _ z,λq hq=>by
  show cN W.G p _ q=_;rw[ar (λz=>hq (by rw[z];exact fr))];exact E.k q hq⟩ a0 ⟨p,ob,kv,rfl,ao,DR.same (R:=R) o2 a0⟩ λb hb=>⟨ar hb,ar hb⟩
theorem zc{p:Addr}{xs:List (B×O)}(o:OwD g R W p xs)(E:Ext W0 W)(fr:W0.H p=none)(q:∀W',Ext W0 W'->Same W.G W'.G->isDk g R W'.G xs (.ref p)->(∀b,b≠p->W'.H b=W.H b/\W'.G b=W.G b)->gA ts r D Y W'.H)(hi:Y[i]? =some (some<|.ref p):=by rfl):gA (EF i ts) r D Y W.H:=sA (D:={D with nx:=r D}) o E fr q hi
theorem zd{g:B->Key}[DecidableEq B]{Rk:Rp B}{p:Addr}{xs:List (B×Int)}{m:Res Int}{mk:Res B}{f:Int->Int->Int}(hg:∀a b,g a=g b->a=b)(hk:∀H b v,Rk H b v->v=kV (g b))(o:OwD g isI W p xs)(hj:EV Er ti Y W (sh Rk) mk)(h:EV Er te Y W (sh isI) m)
  (q:(mk.bind λk=>(getD xs k).bind λa=>m.bind λb=>gr xs k<|f a b).OkE Er λys=>∀W',Mu W W' p->OwD g isI W' p ys->D.nx Y W'.H) (hi:Y[i]? =some (some<|.ref p):=by rfl):A6 (bC i) ti te (EO f) D Y W.H:=by
 refine⟨.ref p,hi,hj W (.refl _) _<|(Gj q).imp λk kk x W2 e2 hx=>?_⟩;obtain⟨a,h1,h2⟩:=dJ<|Gj kk;obtain⟨kv,o1,o2,o3⟩:=(o.mono e2).h;have hl:=fE hg kv xs o2 o3 k;rw[h1]at hl;obtain⟨u,hu,ru⟩:=hl;cases ru;refine⟨p,_,rfl,by rw[hk _ _ _ hx,<-hu];exact DGet.k o1,h W2 e2 _<|(Gj h2).imp λb kb y W3 e3 hy=>?_⟩;cases hy;obtain⟨h3,h4⟩:=aP kb;have e:=e2.trans e3;have o':=o.mono e;obtain⟨kv,o1,o2,o3⟩:=o'.h;obtain⟨p1,p2⟩:=sd hg o2 o3 (k:=k) (v:=.int<|f a b) (R:=isI) (a:=f a b) (H:=W3.G) rfl;refine⟨a,b,rfl,rfl,_,by rw[hk _ _ _ hx];exact DPut.k o1 (by rw[o2,HR];unfold Mi.cap at h3;omega),?_⟩;exact h4 (W3.mut p (.dK<|iM kv (g k)<|.int<|f a b) o'.g) (.of e o'.g) ⟨o'.g,_,ao,p1,p2⟩
theorem x5{Rk:Rp B}{m:Res (List<|B×O)}(hk:∀H b,Rk H b<|kV<|g b)(h:EV Er t Y W (sh<|isDk g R) m):IV Er (wW t) Y W Rk (m.bind λd=>.ok (d.map (·.1))):=λW1 e1 P k=>
 h W1 e1 _ ((Gj k).imp λd kd x W2 e2 hx=>by
  obtain⟨p,o,kv,rfl,h1,h2,h3⟩:=hx;refine⟨p,o,kv,rfl,W2.ok _ _ h1,kd _ W2 e2 λW3 e3=>⟨λi a ha=>?_,W3.ok _ _<|e3 _ _ h1,by rw[GR,h2]⟩⟩;rw[Hd]at ha;obtain⟨x,hx,rfl⟩:=Ir.mp ha;have hi:i<kv.length:=by have:=(Gx.mp hx).1;omega
  refine⟨⟨W3.ok _ _ (e3 _ _ h1),hi⟩,λy H'⟨z1,q,hq,ry⟩=>⟨W3,z1.symm,.refl _,?_⟩⟩;rw[ry,(h3 i q x hq hx).1];exact hk _ _)
theorem x6{Rk:Rp B}[Mono Rk]{m:Res (List<|B×O)}(hk:∀H b,Rk H b<|kV<|g b)(h:EV Er t Y W (sh<|isDk g R) m):IV Er (wY t) Y W (isT2 K Rk R) m:=λW1 e1 P k=>
 h W1 e1 _ (k.imp λd kd x W2 e2 hx=>by
  obtain⟨p,o,kv,rfl,h1,h2,h3⟩:=hx;refine⟨p,o,kv,rfl,W2.ok _ _ h1,kd _ W2 e2 λW3 e3=>⟨λi a ha=>?_,W3.ok _ _<|e3 _ _ h1,h2.symm⟩⟩;have hi:i<kv.length:=by have:=(Gx.mp ha).1;omega
  refine⟨⟨W3.ok _ _<|e3 _ _ h1,hi⟩,λy H'⟨T,q,hT,ry,hq,z⟩=>⟨W3.new T<|.tup [kV q.1,q.2],by rw[z];rfl,.new _ hT,T,_,_,ry,NT ao,?_,?_⟩⟩;·rw[(h3 i q a hq ha).1];exact hk _ _
  ·exact Gm (LY _ hT).g (Gm e3 (h3 i q a hq ha).2))
theorem F0:∀(H:Hp)(b:Tx),isS H b (kV<|GU<|sOf b):=λ_ _=>rfl
end
section
variable{O B γ δ:Type}
abbrev Rfl(O:Type):=Hp->O->List (Str×V)->Prop
def f1(f:Str)(R:Rp O):Rfl O:=λG a fs=>∃v,fs=[(f,v)]/\R G a v
def fC(f:Str)(R:Rp O)(RF:Rfl B):Rfl (O×B):=λG a fs=>∃v r,fs=(f,v)::r/\R G a.1 v/\RF G a.2 r
class MonoF(RF:Rfl O):Prop where
 mono:∀{G G':Hp}{a:O}{fs:List (Str×V)},Same G G'->RF G a fs->RF G' a fs
instance zkeep74{f:Str}{R:Rp O}[Mono R]:MonoF (f1 f R):=⟨λe⟨v,h1,h2⟩=>⟨v,h1,Gm e h2⟩⟩
instance zkeep75{f:Str}{R:Rp O}{RF:Rfl B}[Mono R][MonoF RF]:MonoF (fC f R RF):=⟨λe⟨v,r,h1,h2,h3⟩=>⟨v,r,h1,Gm e h2,MonoF.mono e h3⟩⟩
def isOb(C:Addr)(RF:Rfl O):Rp O:=λG x v=>∃a dx fs,v=.ref a/\G a=some (.ins C dx fs)/\RF G x fs
instance zkeep76{C:Addr}{RF:Rfl O}[MonoF RF]:Mono (isOb C RF):=⟨λe⟨a,dx,fs,h1,h2,h3⟩=>⟨a,dx,fs,h1,e _ _ h2,MonoF.mono e h3⟩⟩
def x8(RF:Rfl O)(f:Str)(R:Rp γ)(pr:O->γ):Prop:=∀G a fs,RF G a fs->∃v,fs.lookup f=some v/\R G (pr a) v
theorem EG{f:Str}{R:Rp O}:x8 (f1 f R) f R λa=>a:=λG a fs⟨v,h1,h2⟩=>⟨v,by rw[h1];simp[Il],h2⟩
theorem x9{f:Str}{R:Rp O}{RF:Rfl B}:x8 (fC f R RF) f R λa=>a.1:=λG a fs⟨v,r,h1,h2,h3⟩=>⟨v,by rw[h1];simp[Il],h2⟩
theorem j4{f f':Str}{R:Rp γ}{R':Rp O}{RF:Rfl B}{pr:B->γ}(h:x8 RF f R pr)(ne:(f==f')=false:=by decide):x8 (fC f' R' RF) f R λa=>pr a.2:=λG a fs⟨v,r,h1,h2,h3⟩=>by
 obtain⟨u,h4,h5⟩:=h G a.2 r h3;exact⟨u,by rw[h1];simp only[Il,ne];exact h4,h5⟩
variable{Er:Nat->Prop}{t te:TE}{Y:St}{W W0 W' W1 W2:Wd}{K:Gp}{Cl:Addr}{f m:Str}
theorem cJ{RF:Rfl O}{R:Rp γ}{pr:O->γ}{mm:Res O}(c:Cls K Cl)(n:NoAttr K Cl f)(l:x8 RF f R pr)(h:EV Er t Y W (sh<|isOb Cl RF) mm):EV Er (vt K t f) Y W (sh R) (mm.bind λa=>.ok<|pr a):=λW1 e1 Q k=>
 h W1 e1 _ ((Gj k).imp λx kx v W2 e2⟨a,dx,fs,e,ha,r⟩=>by
  obtain⟨u,h1,h2⟩:=l _ _ _ r;exact⟨a,Cl,dx,fs,u,e,W2.ok _ _ ha,c,n,h1,kx u W2 e2 h2⟩)
abbrev Rfo(O:Type):=Wd->FS->O->List (Str×V)->Prop
def o1(f:Str)(R:Rf O):Rfo O:=λW F a fs=>∃v,fs=[(f,v)]/\R W F a v
def oC(f:Str)(R:Rf O)(RF:Rfo B):Rfo (O×B):=λW F a fs=>∃v r F1 F2,fs=(f,v)::r/\R W F1 a.1 v/\RF W F2 a.2 r/\(∀q,F1 q->F2 q->False)/\∀q,F q↔F1 q\/F2 q
class FrO(RF:Rfo O):Prop where
 fr:∀{W W':Wd}{F:FS}{a:O}{fs:List (Str×V)},RF W F a fs->Same W.G W'.G->(∀q,F q->W'.H q=W.H q/\W'.G q=W.G q)->RF W' F a fs
 lv:∀{W:Wd}{F:FS}{a:O}{fs:List (Str×V)},RF W F a fs->∀q,F q->W.G q=none/\W.H q≠none
instance zkeep77{f:Str}{R:Rf O}[FrT R]:FrO (o1 f R):=⟨λ⟨v,h1,h2⟩s k=>⟨v,h1,NU h2 s k⟩,λ⟨v,h1,h2⟩=>Mo h2⟩
instance zkeep78{f:Str}{R:Rf O}{RF:Rfo B}[FrT R][FrO RF]:FrO (oC f R RF):=⟨λ⟨v,r,F1,F2,h1,h2,h3,h4,h5⟩s k=>⟨v,r,F1,F2,h1,NU h2 s λq hq=>k q<|(h5 q).mpr (.inl hq),FrO.fr h3 s λq hq=>k q<|(h5 q).mpr (.inr hq),h4,h5⟩,λ⟨v,r,F1,F2,h1,h2,h3,h4,h5⟩q hq=>((h5 q).mp hq).elim (Mo h2 q) (FrO.lv h3 q)⟩
theorem FrO.mu{RF:Rfo O}[FrO RF]{F F':FS}{a:O}{fs:List (Str×V)}(t:RF W F a fs)(m:MuF F' W W')(dj:∀q,F q->F' q->False):RF W' F a fs:=FrO.fr t m.g λq hq=>⟨m.h q (dj q hq) (FrO.lv t q hq).2,m.k q (FrO.lv t q hq).2⟩
def oOb(C:Addr)(RF:Rfo O):Rf O:=λW F x v=>∃(a dx:Addr)(fs:List (Str×V))(F1:FS),v=.ref a/\W.G a=none/\W.G dx=none/\W.H a=some (.ins C dx fs)/\W.H dx=some (.own a)/\RF W F1 x fs/\¬F1 a/\¬F1 dx/\∀q,F q↔(q=a\/q=dx)\/F1 q
instance zkeep79{C:Addr}{RF:Rfo O}[FrO RF]:FrT (oOb C RF):=⟨λ⟨a,dx,u,F1,e,ga,gd,ha,hd,t,n1,n2,hF⟩s k=>by
 have ka:=k a<|(hF a).mpr (.inl<|.inl rfl);have kd:=k dx<|(hF dx).mpr (.inl<|.inr rfl);exact⟨a,dx,u,F1,e,by rw[ka.2];exact ga,by rw[kd.2];exact gd,by rw[ka.1];exact ha,by rw[kd.1];exact hd,FrO.fr t s λq hq=>k q<|(hF q).mpr (.inr hq),n1,n2,hF⟩,λ⟨a,dx,u,F1,e,ga,gd,ha,hd,t,n1,n2,hF⟩q hq=>by
 rcases (hF q).mp hq with(rfl|rfl)|h;·exact⟨ga,nn_of ha⟩
 ·exact⟨gd,nn_of hd⟩
 ·exact FrO.lv t q h⟩
def F4(RF:Rfo O)(f:Str)(R:Rf γ)(pr:O->γ):Prop:=∀W F a fs,RF W F a fs->∃v F',fs.lookup f=some v/\R W F' (pr a) v
theorem eV{RF:Rfo O}{R:Rf γ}{pr:O->γ}{mm:Res O}(c:Cls K Cl)(n:NoAttr K Cl f)(l:F4 RF f R pr)(h:EV Er t Y W (vw<|oOb Cl RF) mm):EV Er (vt K t f) Y W (vw R) (mm.bind λa=>.ok<|pr a):=λW1 e1 Q k=>
 h W1 e1 _ ((Gj k).imp λx kx v W2 e2⟨F,a,dx,fs,F1,e,ga,gd,ha,hd,t,_⟩=>by
  obtain⟨u,F',h1,h2⟩:=l _ _ _ _ t;exact⟨a,Cl,dx,fs,u,e,ha,c,n,h1,kx u W2 e2 ⟨F',h2⟩⟩)
def FLn(RF:Rfo O)(f:Str)(R:Rf γ)(pr:O->γ)(st:O->γ->O):Prop:=∀W F a fs,RF W F a fs->∃v F1,fs.lookup f=some v/\R W F1 (pr a) v/\(∀q,F1 q->F q)/\∀W' F1' b,MuF F1 W W'->(∀q,F1' q->F1 q\/W.H q=none)->R W' F1' b v->∃F',RF W' F' (st a b) fs/\∀q,F' q->F q\/W.H q=none
theorem FLn.at_{RF:Rfo O}{R:Rf γ}{pr:O->γ}{st:O->γ->O}(l:FLn RF f R pr st):F4 RF f R pr:=λW F a fs h=>by
 obtain⟨v,F1,h1,h2,_⟩:=l W F a fs h;exact⟨v,F1,h1,h2⟩
theorem EH{R:Rf O}:FLn (o1 f R) f R (λa=>a) (λ_ b=>b):=λW F a fs⟨v,h1,h2⟩=>⟨v,F,by rw[h1];simp[Il],h2,λq h=>h,λW' F1' b m hF t=>⟨F1',⟨v,h1,t⟩,hF⟩⟩
theorem Ba{R:Rf O}{RF:Rfo B}[FrT R][FrO RF]:FLn (oC f R RF) f R (λa=>a.1) (λa b=>(b,a.2)):=λW F a fs⟨v,r,F1,F2,h1,h2,h3,h4,h5⟩=>⟨v,F1,by rw[h1];simp[Il],h2,λq h=>(h5 q).mpr (.inl h),λW' F1' b m hF t=>⟨λq=>F1' q\/F2 q,⟨v,r,F1',F2,h1,t,FrO.mu h3 m λq a b=>h4 q b a,λq a b=>(hF q a).elim (λz=>h4 q z b) λz=>(FrO.lv h3 q b).2 z,λq=>JZ⟩,λq hq=>hq.elim (λz=>(hF q z).imp (λy=>(h5 q).mpr (.inl y)) id) λz=>.inl<|(h5 q).mpr (.inr z)⟩⟩
theorem uv{f':Str}{R:Rf γ}{R':Rf O}{RF:Rfo B}{pr:B->γ}{st:B->γ->B}[FrT R'][FrO RF](l:FLn RF f R pr st)(ne:(f==f')=false:=by decide):FLn (oC f' R' RF) f R (λa=>pr a.2) (λa b=>(a.1,st a.2 b)):=λW F a fs⟨v,r,F1,F2,h1,h2,h3,h4,h5⟩=>by
 obtain⟨u,F3,h6,h7,h8,h9⟩:=l W F2 a.2 r h3;refine⟨u,F3,by rw[h1];simp only[Il,ne];exact h6,h7,λq h=>(h5 q).mpr (.inr<|h8 q h),λW' F3' b m hF t=>?_⟩;obtain⟨F2',t1,t2⟩:=h9 W' F3' b m hF t;exact⟨λq=>F1 q\/F2' q,⟨v,r,F1,F2',h1,Qq h2 m λq a b=>h4 q a<|h8 q b,t1,λq a b=>(t2 q b).elim (λz=>h4 q a z) λz=>(Mo h2 q a).2 z,λq=>JZ⟩,λq hq=>hq.elim (λz=>.inl<|(h5 q).mpr (.inl z)) λz=>(t2 q z).imp (λy=>(h5 q).mpr (.inr y)) id⟩
theorem jv{RF:Rfo B}[FrO RF]{R:Rf γ}{pr:B->γ}{st:B->γ->B}{C:O->List TC}{mm:Res (B×(B->O))}(c:Cls K Cl)(n:NoAttr K Cl f)(l:FLn RF f R pr st)(h:EV Er t Y W (Lens W0 C<|oOb Cl RF) mm):EV Er (vt K t f) Y W (Lens W0 C R) (mm.bind λx=>.ok (pr x.1,λb=>x.2<|st x.1 b)):=λW1 e1 Q k=>
 h W1 e1 _ ((Gj k).imp λx kx v W2 e2⟨F,⟨a,dx,fs,F1,e,ga,gd,ha,hd,t,n1,n2,hF⟩,hn,up⟩=>by
  obtain⟨u,F2,h1,h2,h3,h4⟩:=l _ _ _ _ t;refine⟨a,Cl,dx,fs,u,e,ha,c,n,h1,kx u W2 e2 ⟨F2,h2,λq hq=>hn q<|(hF q).mpr (.inr<|h3 q hq),λW' F' b' mu hF' t'=>?_⟩⟩;obtain⟨F3,t3,h5⟩:=h4 W' F' b' mu hF' t';refine up W' (λq=>(q=a\/q=dx)\/F3 q) _ (mu.up λq hq=>(hF q).mpr (.inr<|h3 q hq)) (λq hq=>?_) ⟨a,dx,fs,F3,e,by rw[mu.k a<|nn_of ha];exact ga,by rw[mu.k dx<|nn_of hd];exact gd,by rw[mu.h a (λz=>n1<|h3 a z)<|nn_of ha];exact ha,by rw[mu.h dx (λz=>n2<|h3 dx z)<|nn_of hd];exact hd,t3,λz=>?_,λz=>?_,λq=>JZ⟩
  ·rcases hq with z | z;·exact .inl ((hF q).mpr (.inl z))
   ·exact(h5 q z).imp (λy=>(hF q).mpr (.inr y)) id
  ·exact(h5 a z).elim n1 (nn_of ha)
  ·exact(h5 dx z).elim n2 (nn_of hd))
def CF(RF:Rfo O)(f:Str)(R:Rf γ)(st:O->γ->O):Prop:=∀W W' F a fs,RF W F a fs->Same W.G W'.G->(∀q,F q->W'.H q=W.H q/\W'.G q=W.G q)->∀F1 b u,R W' F1 b u->(∀q,F1 q->F q->False)->∃F',RF W' F' (st a b) (eZ f u fs)/\∀q,F' q->F q\/F1 q
end
section
variable{Er:Nat->Prop}{O B γ δ ρ τ:Type}{t ta te tp:TE}{Y:St}{W W0 W' W1 W2 Wi:Wd}{K:Gp}{Cl:Addr}{f m:Str}{cs:List TC}{D:Ends}{i j k l:Nat}{r:TS}{F:FS}
def CG(K:Gp)(ta:TE):TT:=λY H Q=>ta Y H λx H'=>∃k,Ax K x H' k/\Q k H'
theorem iG{X:Cx}{a:Expr}(hK:X.K=K)(ha:PE X a ta)(he:∀whole,isTrue a X.env whole=(do let v <-whole;standAt a.pos;holding [v] (truthy v)):=by intro _;rfl):PT X a (CG K ta):=by
 subst hK;exact vn ha he
theorem kU{R:Rp O}{m:Res (List O)}(h:EV Er ta Y W (pk R) m):TV Er (CG K ta) Y W (m.bind λa=>.ok<|!a.isEmpty):=λW1 e1 Q q=>
 h W1 e1 _ ((Gj q).imp λa ka v W2 e2 hv=>by
  obtain⟨p,vs,rfl,h1,h2⟩:=hv;refine⟨!a.isEmpty,.inl ⟨vs,Ic h1,?_⟩,ka W2 e2⟩;have:=h2.1;cases a<;>cases vs<;>first|rfl|cases this)
theorem EI{R:Rf O}:CF (o1 f R) f R λ_ b=>b:=λW W' F a fs⟨v,h1,h2⟩s k F1 b u t dj=>⟨F1,⟨u,by rw[h1];show(if f=f then _ else _)=_;rw[Z1 rfl],t⟩,λq hq=>.inr hq⟩
theorem Bb{f':Str}{R:Rf γ}{R':Rf O}{RF:Rfo B}{st:B->γ->B}[FrT R'](l:CF RF f R st)(ne:f'≠f:=by decide):CF (oC f' R' RF) f R λa b=>(a.1,st a.2 b):=λW W' F a fs⟨v,r,F1,F2,h1,h2,h3,h4,h5⟩s k F3 b u t dj=>by
 obtain⟨F',t1,t2⟩:=l W W' F2 a.2 r h3 s (λq hq=>k q<|(h5 q).mpr (.inr hq)) F3 b u t λq x y=>dj q x<|(h5 q).mpr (.inr y);refine⟨λq=>F1 q\/F' q,⟨v,eZ f u r,F1,F',by rw[h1];show(if f'=f then _ else _)=_;rw[Z2 ne],NU h2 s λq hq=>k q<|(h5 q).mpr (.inl hq),t1,λq x y=>(t2 q y).elim (h4 q x) λz=>dj q z<|(h5 q).mpr (.inl x),λq=>JZ⟩,λq hq=>hq.elim (λz=>.inl<|(h5 q).mpr (.inl z)) λz=>(t2 q z).imp (λy=>(h5 q).mpr (.inr y)) id⟩
def CH(RF:Rfo O):Prop:=∀W F a fs,RF W F a fs->fs.length<1000
theorem uw{RF:Rfo τ}[FrO RF]{R:Rf γ}[FrT R]{st:τ->γ->τ}{x:τ}{v:V}{mm:Res γ}(c:Cls K Cl)(n:NoAttr K Cl f)(hl:CH RF)(l:CF RF f R st)(S:Sep W0 W cs)(E:Ext W0 W)(hc:cs[k]? =some (tc (oOb Cl RF) x v))(h:wM Er te Y W R mm)(q:mm.OkE Er λb=>∀W',Same W.G W'.G->Ext W0 W'->Sep W0 W' (cs.set k<|tc (oOb Cl RF) (st x b) v)->D.nx Y W'.H)(hi:Y[i]? =some (some v):=by rfl):Az K (bC i) te f D Y W.H:=
 h W (.refl _) _ (q.imp λb kb u W2 F1 e2 hF1 t1=>by
  obtain⟨Fs,s⟩:=S;obtain⟨a,dx,fs,F2,e,ga,gd,ha,hd,t,n1,n2,hF⟩:=(show oOb Cl RF W2 (Fs k) x v from Pr (s.el k _ hc) e2)
  subst e;have kk:k<cs.length:=(Gx.mp hc).1;have hFa:Fs k a:=(hF a).mpr (.inl<|.inl rfl);have hFd:Fs k dx:=(hF dx).mpr (.inl<|.inr rfl);have dj1:∀q,F1 q->Fs k q->False:=λq h1 h2=>(s.lv h2).2 (hF1 q h1);have mu:MuF (Fs k) W (W2.mut a (.ins Cl dx<|eZ f u fs) ga):=(e2.muF (F:=Fs k)).trans (Pq (F:=Fs k) hFa ga) λq hq=>.inl hq;obtain⟨F',t3,h3⟩:=l W2 (W2.mut a (.ins Cl dx<|eZ f u fs) ga) F2 x fs t (.refl _) (λq hq=>⟨ar λz=>n1<|z▸hq,rfl⟩) F1 b u (NU t1 (.refl _) λq hq=>⟨ar λz=>dj1 q hq<|z▸hFa,rfl⟩) λq h1 h2=>dj1 q h1<|(hF q).mpr (.inr h2);have nda:dx≠a:=λz=>by rw[z,ha]at hd;cases hd
  refine⟨.ref a,hi,a,Cl,dx,fs,rfl,ha,c,n,hl _ _ _ _ t,kb (W2.mut a (.ins Cl dx<|eZ f u fs) ga) e2.g ((E.trans e2).mut (s.nw k a hFa) ga) ?_⟩;refine s.put (F:=λq=>(q=a\/q=dx)\/F' q) E mu (λq hq=>?_) ⟨a,dx,eZ f u fs,F',rfl,ga,gd,ao,(ar nda).trans hd,t3,λz=>?_,λz=>?_,λq=>JZ⟩ kk
  ·rcases hq with(rfl | rfl) | hq;·exact .inl hFa
   ·exact .inl hFd
   ·exact(h3 q hq).imp (λy=>(hF q).mpr (.inr y)) (hF1 q)
  ·exact(h3 a z).elim n1 λy=>dj1 a y hFa
  ·exact(h3 dx z).elim n2 λy=>dj1 dx y hFd)
variable{C:O->List TC}
theorem nj{kk k2 k3:St->Hp->Prop}{k1:VK}{R:Rp B}[Mono R]{mp:Res (List B×(List B->O))}{σ':V->St}(E:Ext W0 W)(hp:EV Er tp Y W (Lens W0 C<|oL<|fz R) mp)(q:(mp.bind λp=>(kI p.1).bind λb=>.ok (p.2 b.2,b.1)).OkE Er λa'=>∀v W',Same W.G W'.G->Ext W0 W'->Sep W0 W' (C a'.1)->R W'.G a'.2 v->kk (σ' v) W'.H)(hσ:∀v,Y.set j (some v)=σ' v:=by intro _;rfl):
  cH (dm K "list" AG tp) (bc j) ⟨kk,k1,k2,k3⟩ Y W.H:=hp W (.refl _) _ ((Gj q).imp λp kp u W1 e1 l=>by
 obtain⟨p0,vs,rfl,hH,lr,hg,back⟩:=Qh (E.trans e1) l;unfold kI at kp;cases hz:p.1[p.1.length-1]? with
 |none=>rw[hz]at kp;exact(kp:False).elim
 |some x=>
  rw[hz]at kp;obtain⟨y,hy,ry⟩:=lr.get hz;obtain⟨b1,b2⟩:=back vs.dropLast p.1.dropLast lr.dropLast;have:=kp y (W1.mut p0 (.lst vs.dropLast) hg) e1.g b1 b2 ry;rw[<-hσ]at this;exact⟨.inl ⟨rfl,vs,Ic hH⟩,p0,vs,y,rfl,rfl,hH,by rw[lr.1];exact hy,this⟩)
theorem ze{kk k2 k3:St->Hp->Prop}{k1:VK}{R:Rp B}[Mono R]{mp:Res (List B×(List B->O))}{m:Res (List B)}(E:Ext W0 W)(hp:EV Er tp Y W (Lens W0 C<|oL<|fz R) mp)(h:EV Er te Y W (pk R) m)(q:(mp.bind λp=>m.bind λx=>(mF p.1 x).bind λb=>.ok<|p.2 b).OkE Er λa'=>∀W',Same W.G W'.G->Ext W0 W'->Sep W0 W' (C a')->kk Y W'.H):
  bE (fy K "list" nO tp<|ah te aO) ⟨kk,k1,k2,k3⟩ Y W.H:=hp W (.refl _) _ ((Gj q).imp λp kp u W1 e1 l=>by
 obtain⟨p0,vs0,rfl,hH0,_,_⟩:=Qh (E.trans e1) l;refine⟨.inl ⟨rfl,vs0,Ic hH0⟩,h W1 e1 _ ((Gj kp).imp λx kx v W2 e2 hv=>?_)⟩;obtain⟨p1,vs,ep,hH,lr,hg,back⟩:=Qh ((E.trans e1).trans e2) (GX e2 l);cases ep;obtain⟨h3,h4⟩:=aP (Gj kx);obtain⟨b,us,rfl,g1,g2⟩:=hv;obtain⟨b1,b2⟩:=back (vs++us) (p.1++x) (LR.app lr g2);exact⟨p0,b,vs,us,rfl,rfl,hH,g1,by rw[lr.1,g2.1];exact iY h3,h4 (W2.mut p0 (.lst (vs++us)) hg) (e1.trans e2).g b1 b2⟩)
theorem oL.lf{R:Rp B}[Mono R]{xs:List B}{v:V}(t:oL (fz R) W F xs v):∃p vs,v=.ref p/\W.H p=some (.lst vs)/\LR R W.G xs vs/\F p/\W.G p=none/\∀W' vs' xs',W'.G p=none->W'.H p=some (.lst vs')->LR R W'.G xs' vs'->oL (fz R) W' (· =p) xs' v:=by
 obtain⟨p,vs,Fs,rfl,g,h,t,np,hF⟩:=t;exact⟨p,vs,rfl,h,t.lr,(hF p).mpr (.inl rfl),g,λW' vs' xs' g' h' lr=>⟨p,vs',λ_ _=>False,rfl,g',h',.of lr,λ_ z=>z,λq=>⟨.inl,λz=>z.elim id λ⟨_,z⟩=>z.elim⟩⟩⟩
theorem nq{kk k2 k3:St->Hp->Prop}{k1:VK}{R:Rp B}[Mono R]{xs ys:List B}{v u:V}(S:Sep W0 W cs)(E:Ext W0 W)(hk:cs[k]? =some (tc (oL<|fz R) xs v))(hl:cs[l]? =some (tc (oL<|fz R) ys u))(hkl:k≠l)(q:((kI ys).bind λb=>(eG xs b.1).bind λc=>.ok (c,b.2)).OkE Er λz=>∀W',Same W.G W'.G->Ext W0 W'->Sep W0 W' ((cs.set l<|tc (oL<|fz R) z.2 u).set k (tc (oL<|fz R) z.1 v))->kk Y W'.H)(hi:Y[i]? =some (some v):=by rfl)(hj:Y[j]? =some (some u):=by rfl):
  bE (fy K "list" aK (bC i)<|ah (dm K "list" AG<|bC j) aO) ⟨kk,k1,k2,k3⟩ Y W.H:=by
 obtain⟨Fs,s⟩:=S;obtain⟨p,vs,rfl,h1,lr1,F1,g1,up1⟩:=oL.lf (show oL (fz R) W (Fs k) xs v from s.el k _ hk);obtain⟨p',us,rfl,h2,lr2,F2,g2,up2⟩:=oL.lf (show oL (fz R) W (Fs l) ys u from s.el l _ hl);have ne:p≠p':=λz=>hkl<|s.dj k l p F1<|z▸F2;have kk:k<cs.length:=(Gx.mp hk).1;have kl:l<cs.length:=(Gx.mp hl).1;unfold kI at q;cases hz:ys[ys.length-1]? with
 |none=>rw[hz]at q;exact(q:False).elim
 |some x=>
  rw[hz]at q;obtain⟨y,hy,ry⟩:=lr2.get hz;obtain⟨h3,h4⟩:=aP (Gj (show((eG xs x).bind _).OkE Er _ from q));have e1:Ext W0 (W.mut p' (.lst us.dropLast) g2):=E.mut (s.nw l p' F2) g2;have S1:=s.put (F:=(· =p')) E (Pq (F:=Fs l) F2 g2) (λq hq=>.inl (by rw[hq];exact F2)) (up2 (W.mut p' (.lst us.dropLast) g2) us.dropLast ys.dropLast g2 ao lr2.dropLast) kl;have hp1:(W.mut p' (.lst us.dropLast) g2).H p=some (.lst vs):=(ar ne).trans h1;refine⟨_,hi,.inl ⟨rfl,vs,Ic h1⟩,_,hj,.inl ⟨rfl,us,Ic h2⟩,p',us,y,rfl,rfl,h2,by rw[lr2.1];exact hy,p,vs,y,rfl,rfl,hp1,by rw[lr1.1,HR];unfold Mi.cap at h3;omega,h4 ((W.mut p' (.lst us.dropLast) g2).mut p (.lst<|vs++[y]) g1) (.refl _) (e1.mut (s.nw k p F1) g1) ?_⟩;obtain⟨Fs2,s2⟩:=S1;have hk2:(cs.set l<|tc (oL<|fz R) ys.dropLast<|.ref p')[k]? =some (tc (oL<|fz R) xs<|.ref p):=by rw[K1<|HW hkl];exact hk
  obtain⟨p2,vs2,e2,h5,lr3,F3,g3,up3⟩:=oL.lf (show oL (fz R) _ (Fs2 k) xs (.ref p)from s2.el k _ hk2);cases e2;exact s2.put (F:=(· =p)) e1 (Pq (W:=W.mut p' (.lst us.dropLast) g2) (F:=Fs2 k) F3 g1) (λq hq=>.inl (by rw[hq];exact F3)) (up3 _ (vs++[y]) (xs++[x]) g1 ao<|lr1.snoc ry) (by rw[Jb];exact kk)
end
section
variable{Er:Nat->Prop}{O B γ δ ε ζ ρ τ υ:Type}{ta te tp:TE}{t:TA}{Y:St}{W W0 W' W1 W2 Wi:Wd}{K:Gp}{Cl:Addr}{f m:Str}{cs:List TC}{D:Ends}{i j k l:Nat}{r:TS}{F:FS}{E:XK}
abbrev Raw(O:Type):=Wd->O->List V->Prop
def wN:Raw Unit:=λ_ _ us=>us=[]
def wC(R:Rw O)(RA:Raw B):Raw (O×B):=λW a us=>∃v r,us=v::r/\R W a.1 v/\RA W a.2 r
class MonoR(RA:Raw O):Prop where
 mono:∀{W W':Wd}{a:O}{us:List V},Ext W W'->RA W a us->RA W' a us
instance zkeep80:MonoR wN:=⟨λ_ h=>h⟩
instance zkeep81{R:Rw O}{RA:Raw B}[MonoW R][MonoR RA]:MonoR (wC R RA):=⟨λe⟨v,r,h1,h2,h3⟩=>⟨v,r,h1,GX e h2,MonoR.mono e h3⟩⟩
def Af(Er:Nat->Prop)(t:TA)(Y:St)(W:Wd)(RA:Raw O)(m:Res O):Prop:=∀W1,Ext W W1->∀Q:List V->Hp->Prop,m.OkE Er (λa=>∀us W2,Ext W1 W2->RA W2 a us->Q us W2.H)->t Y W1.H Q
theorem cE:Af Er aO Y W wN (.ok ()):=λW1 _ Q k=>k [] W1 (.refl _) rfl
theorem cI{R:Rw O}{RA:Raw B}[MonoW R]{m:Res O}{ma:Res B}(h:EV Er te Y W R m)(ht:Af Er t Y W RA ma):Af Er (ah te t) Y W (wC R RA) (m.bind λa=>ma.bind λb=>.ok (a,b)):=λW1 e1 Q k=>
 h W1 e1 _ ((Gj k).imp λa ka v W2 e2 hv=>ht W2 (e1.trans e2) _<|(Gj ka).imp λb kb us W3 e3 hu=>kb (v::us) W3 (e2.trans e3) ⟨v,us,rfl,GX e3 hv,hu⟩)
def gj(RA:Raw O)(rt:Rt ρ)(m:O->Res ρ):Sp:=λvs H Q _=>∃(W:Wd)(a:O),W.H=H/\RA W a vs/\∃Er:Nat->Prop,(m a).OkE Er λr=>rt W r Q
section
variable{RA:Raw O}{ma:Res O}
theorem i6{R:Rp ρ}{mf:O->Res ρ}(h:Af Er t Y W RA ma):EV Er (aU (gj RA (rs R) mf) [] E t) Y W (sh R) (ma.bind λa=>mf a):=λW1 e1 Q q=>
 h W1 e1 _ ((Gj q).imp λa ka us W2 e2 hu=>⟨W2,a,rfl,by rw[Hw];exact hu,Er,ka.imp λr kr u W' e hv=>kr u W' (e2.trans e) hv⟩)
theorem ux{R:Rp ρ}{mf:O->Res (List ρ)}(h:Af Er t Y W RA ma):EVo Er (aU (gj RA (ro R) mf) [] E t) Y W R (ma.bind λa=>mf a):=λW1 e1 Q q=>
 h W1 e1 _ ((Gj q).imp λa ka us W2 e2 hu=>⟨W2,a,rfl,by rw[Hw];exact hu,Er,ka.imp λr kr p W' e hp o=>kr p W' (e2.trans e) (none_of e2.h hp) o⟩)
end
def BH(RF:Rfo O)(m:Str):Prop:=∀W F a fs,RF W F a fs->fs.lookup m=none
theorem gH{R:Rf O}(h:(m==f)=false:=by decide):BH (o1 f R) m:=λW F a fs⟨v,h1,_⟩=>by rw[h1];simp only[Il,h]
theorem bV{R:Rf O}{RF:Rfo B}(g:BH RF m)(h:(m==f)=false:=by decide):BH (oC f R RF) m:=λW F a fs⟨v,r,F1,F2,h1,h2,h3,_⟩=>by rw[h1];simp only[Il,h];exact g _ _ _ _ h3
theorem nr{RF:Rfo τ}{C:Addr}(h:BH RF m):HasM (oOb C RF) C m:=⟨λ⟨a,dx,u,F1,e,_,_,ha,_,t,_⟩=>⟨a,dx,_,e,ha,h _ _ _ _ t⟩⟩
section
variable{RF:Rfo τ}[FrO RF]{RA:Raw O}[MonoR RA]{ma:Res O}{mo:Res τ}
theorem jw{R:Rp ρ}{mf:τ×O->Res ρ}(hm:BH RF m)(h:EV Er ta Y W (vw<|oOb Cl RF) mo)(ht:Af Er t Y W RA ma):EV Er (gL Cl m (gj (wC (vw<|oOb Cl RF) RA) (rs R) mf) [] E ta t) Y W (sh R) (mo.bind λx=>ma.bind λa=>mf (x,a)):=λW1 e1 Q q=>
 h W1 e1 _ ((Gj q).imp λx kx v W2 e2 hv=>by
  obtain⟨F,a,dx,fs,F1,e,_,_,ha,_,t1,_⟩:=id hv;refine⟨a,dx,fs,e,ha,hm _ _ _ _ t1,ht W2 (e1.trans e2) _ ((Gj kx).imp λy ky us W3 e3 hu=>⟨W3,(x,y),rfl,⟨v,us,by rw[Hw],GX e3 hv,hu⟩,Er,ky.imp λr kr u W' e hw=>kr u W' ((e2.trans e3).trans e) hw⟩)⟩)
theorem oy{R:Rp ρ}{mf:τ×O->Res (List ρ)}(hm:BH RF m)(h:EV Er ta Y W (vw<|oOb Cl RF) mo)(ht:Af Er t Y W RA ma):EVo Er (gL Cl m (gj (wC (vw<|oOb Cl RF) RA) (ro R) mf) [] E ta t) Y W R (mo.bind λx=>ma.bind λa=>mf (x,a)):=λW1 e1 Q q=>
 h W1 e1 _ ((Gj q).imp λx kx v W2 e2 hv=>by
  obtain⟨F,a,dx,fs,F1,e,_,_,ha,_,t1,_⟩:=id hv;refine⟨a,dx,fs,e,ha,hm _ _ _ _ t1,ht W2 (e1.trans e2) _ ((Gj kx).imp λy ky us W3 e3 hu=>⟨W3,(x,y),rfl,⟨v,us,by rw[Hw],GX e3 hv,hu⟩,Er,ky.imp λr kr p W' e hp o=>kr p W' ((e2.trans e3).trans e) (none_of (e2.trans e3).h hp) o⟩)⟩)
end
section
variable{R:Rf τ}[FrT R]{RA:Ra O}{RR:Rp ρ}{x:τ}{v:V}{ma:Res O}{mf:τ->O->Res (τ×ρ)}{Q:VK}
theorem Bc(hm:HasM R Cl m)(S:Sep W0 W cs)(E0:Ext W0 W)(hc:cs[k]? =some (tc R x v))(hi:Y[i]? =some (some v))(ha:um Er t Y W RA ma)
  (q:(ma.bind λa=>mf x a).OkE Er λr=>∀u W',Ext W0 W'->Same W.G W'.G->Sep W0 W' (cs.set k<|tc R r.1 v)->RR W'.G r.2 u->Q u W'.H):gL Cl m (uY R RA RR mf) [] E (bC i) t Y W.H Q:=by
 obtain⟨Fs,s⟩:=id S;obtain⟨a,dx,fs,e,h1,h2⟩:=hm.at_<|s.el k _ hc;refine⟨v,hi,a,dx,fs,e,h1,h2,ha W (.refl _) _<|(Gj q).imp λb kb us W2 e2 hu=>?_⟩;obtain⟨W1,F,x1,t1,n1,up⟩:=(S.ext e2).call (E0.trans e2) hc;refine⟨W1,W2,F,x,v,b,us,rfl,by rw[Hw],x1,n1,t1,hu,Er,kb.imp λr kr u W' F' e' hs hF' t' hr=>?_⟩;obtain⟨z1,z2⟩:=up W' F' r.1 e' hF' t';exact kr u W' z1 (e2.g.trans hs) z2 hr
theorem pS{kk k2 k3:St->Hp->Prop}{k1:VK}(hm:HasM R Cl m)(S:Sep W0 W cs)(E0:Ext W0 W)(hc:cs[k]? =some (tc R x v))(hi:Y[i]? =some (some v))(ha:um Er t Y W RA ma)
  (q:(ma.bind λa=>mf x a).OkE Er λr=>∀W',Same W.G W'.G->Ext W0 W'->Sep W0 W' (cs.set k<|tc R r.1 v)->kk Y W'.H):bE (gL Cl m (uY R RA RR mf) [] E (bC i) t) ⟨kk,k1,k2,k3⟩ Y W.H:=
 Bc (Q:=λ_ H=>kk Y H) hm S E0 hc hi ha (q.imp λr kr u W' e hs S' _=>kr W' hs e S')
end
end
section
variable{Er:Nat->Prop}{O B γ δ ε ζ ρ τ υ:Type}{ta te tp:TE}{t:TA}{Y:St}{W W0 W' W1 W2 Wi:Wd}{K:Gp}{Cl:Addr}{f m:Str}{cs:List TC}{D:Ends}{i j k l:Nat}{r:TS}{F:FS}{E:XK}
def sC(C:Addr)(RF:Rfo τ)(RA:Raw O)(m:O->Res τ):Sp:=λvs H Q _=>∃(W0 W:Wd)(a dx:Addr)(x:O)(us:List V),W.H=H/\vs=.ref a::us/\Ext W0 W/\W0.H a=none/\W0.H dx=none/\dx≠a/\W.G a=none/\W.G dx=none/\W.H a=some (.ins C dx [])/\W.H dx=some (.own a)/\RA W0 x us/\∃Er:Nat->Prop,(m x).OkE Er λb=>∀W' F,Ext W0 W'->(∀q,F q->W0.H q=none)->oOb C RF W' F b (.ref a)->Q .non W'.H
theorem xa{RF:Rfo τ}{RA:Raw O}{ma:Res O}{mf:O->Res τ}(h:Af Er t Y W RA ma):wM Er (rB Cl (sC Cl RF RA mf) [] E t) Y W (oOb Cl RF) (ma.bind λa=>mf a):=λW1 e1 Q q=>
 h W1 e1 _ ((Gj q).imp λa ka us W3 e3 hu=>by
  intro p dx hp hd ne;have gd:=W3.gnone hd;have gp:=W3.gnone hp
  let W4:Wd:=(W3.mut dx (.own p) gd).mut p (.ins Cl dx []) gp
  have n4:(W3.mut dx (.own p) gd).H p=none:=by show cN W3.H dx _ p=none;rw[ar<|HW ne];exact hp
  have E4:Ext W3 W4:=(Po _ hd).trans (Po (W:=W3.mut dx (.own p) gd) _ n4);have hp4:W4.H p=some (.ins Cl dx []):=ao;have hd4:W4.H dx=some (.own p):=by show cN (cN W3.H dx _) p _ dx=_;rw[ar ne,ao]
  exact⟨W3,W4,p,dx,a,us,rfl,by rw[Hw],E4,hp,hd,ne,gp,gd,hp4,hd4,hu,Er,ka.imp λb kb W5 F e5 hF t=>⟨rfl,kb (.ref p) W5 F (e3.trans e5) (λq hq=>none_of e3.h (hF q hq)) t⟩⟩)
def oRaw(C a dx:Addr)(fs:List (Str×V)):Rf Unit:=λW F _ v=>v=.ref a/\W.G a=none/\W.G dx=none/\W.H a=some (.ins C dx fs)/\W.H dx=some (.own a)/\dx≠a/\∀q,F q↔q=a\/q=dx
instance zkeep82{C a dx:Addr}{fs:List (Str×V)}:FrT (oRaw C a dx fs):=⟨λ⟨e,ga,gd,ha,hd,ne,hF⟩s k=>by
 have ka:=k a<|(hF a).mpr (.inl rfl);have kd:=k dx<|(hF dx).mpr (.inr rfl);exact⟨e,by rw[ka.2];exact ga,by rw[kd.2];exact gd,by rw[ka.1];exact ha,by rw[kd.1];exact hd,ne,hF⟩,λ⟨e,ga,gd,ha,hd,ne,hF⟩q hq=>by
 rcases (hF q).mp hq with rfl|rfl;·exact⟨ga,nn_of ha⟩
 ·exact⟨gd,nn_of hd⟩⟩
theorem oz{kk k2 k3:St->Hp->Prop}{k1:VK}{a dx:Addr}{fs:List (Str×V)}{R:Rf γ}[FrT R]{mm:Res γ}(c:Cls K Cl)(n:NoAttr K Cl f)(hl:fs.length<1000)(S:Sep W0 W (tc (oRaw Cl a dx fs) () (.ref a)::cs))(E0:Ext W0 W)(h:wM Er te Y W R mm)(q:mm.OkE Er λb=>∀u W',Ext W0 W'->Same W.G W'.G->Sep W0 W' (tc (oRaw Cl a dx<|eZ f u fs) () (.ref a)::(cs++[tc R b u]))->kk Y W'.H)(hi:Y[i]? =some (some<|.ref a):=by rfl):Az K (bC i) te f ⟨kk,k1,k2,k3⟩ Y W.H:=
 h W (.refl _) _ (q.imp λb kb u W2 F1 e2 hF1 t1=>by
  have S2:=S.add E0 e2 hF1 t1;obtain⟨Fs,s⟩:=S2;obtain⟨_,ga,gd,ha,hd,ne,hF⟩:=(show oRaw Cl a dx fs W2 (Fs 0) () (.ref a)from s.el 0 _ rfl)
  have hFa:Fs 0 a:=(hF a).mpr (.inl rfl);have E2:=E0.trans e2;refine⟨.ref a,hi,a,Cl,dx,fs,rfl,ha,c,n,hl,kb u (W2.mut a (.ins Cl dx (eZ f u fs)) ga) (E2.mut (s.nw 0 a hFa) ga) e2.g ?_⟩;exact s.put (i:=0) (F:=Fs 0) E2 (Pq (F:=Fs 0) hFa ga) (λq hq=>.inl hq) (show oRaw Cl a dx (eZ f u fs) _ (Fs 0) () (.ref a)from⟨rfl,ga,gd,ao,(ar ne).trans hd,ne,hF⟩) (by simp))
theorem EJ{a dx:Addr}{f1 f2 f3 f4:Str}{R1:Rf O}{R2:Rf B}{R3:Rf γ}{R4:Rf δ}[FrT R1][FrT R2][FrT R3][FrT R4]{x1:O}{x2:B}{x3:γ}{x4:δ}{u1 u2 u3 u4:V}(S:Sep W0 W [tc (oRaw Cl a dx [(f1,u1),(f2,u2),(f3,u3),(f4,u4)]) () (.ref a),tc R1 x1 u1,tc R2 x2 u2,tc R3 x3 u3,tc R4 x4 u4]):∃F,(∀q,F q->W0.H q=none)/\oOb Cl (oC f1 R1<|oC f2 R2<|oC f3 R3<|o1 f4 R4) W F (x1,x2,x3,x4) (.ref a):=by
 obtain⟨Fs,s⟩:=S;obtain⟨_,ga,gd,ha,hd,ne,hF⟩:=(show oRaw Cl a dx _ W (Fs 0) () (.ref a)from s.el 0 _ rfl)
 have hFa:Fs 0 a:=(hF a).mpr (.inl rfl);have hFd:Fs 0 dx:=(hF dx).mpr (.inr rfl);have d0:∀(j:Nat)q,Fs 0 q->Fs (j+1) q->False:=λj q h1 h2=>by have:=s.dj 0 (j+1) q h1 h2;omega
 have dj:∀(i j:Nat)q,i≠j->Fs i q->Fs j q->False:=λi j q h h1 h2=>h<|s.dj i j q h1 h2;refine⟨λq=>(q=a\/q=dx)\/(Fs 1 q\/(Fs 2 q\/(Fs 3 q\/Fs 4 q))),λq hq=>?_,a,dx,_,λq=>Fs 1 q\/(Fs 2 q\/(Fs 3 q\/Fs 4 q)),rfl,ga,gd,ha,hd,⟨u1,_,Fs 1,λq=>Fs 2 q\/(Fs 3 q\/Fs 4 q),rfl,s.el 1 _ rfl,⟨u2,_,Fs 2,λq=>Fs 3 q\/Fs 4 q,rfl,s.el 2 _ rfl,⟨u3,_,Fs 3,Fs 4,rfl,s.el 3 _ rfl,⟨u4,rfl,s.el 4 _ rfl⟩,λq=>dj 3 4 q ⋯,λq=>JZ⟩,λq h1 h2=>h2.elim (dj 2 3 q ⋯ h1) (dj 2 4 q ⋯ h1),λq=>JZ⟩,λq h1 h2=>h2.elim (dj 1 2 q ⋯ h1) λh=>h.elim (dj 1 3 q ⋯ h1) (dj 1 4 q ⋯ h1),λq=>JZ⟩,λz=>?_,λz=>?_,λq=>JZ⟩
 ·rcases hq with(rfl | rfl) | h | h | h | h;·exact s.nw 0 _ hFa
  ·exact s.nw 0 _ hFd
  ·exact s.nw 1 _ h
  ·exact s.nw 2 _ h
  ·exact s.nw 3 _ h
  ·exact s.nw 4 _ h
 ·exact z.elim (d0 0 a hFa) λz=>z.elim (d0 1 a hFa) λz=>z.elim (d0 2 a hFa)<|d0 3 a hFa
 ·exact z.elim (d0 0 dx hFd) λz=>z.elim (d0 1 dx hFd) λz=>z.elim (d0 2 dx hFd)<|d0 3 dx hFd
theorem EV.trf{R:Rp O}{m:Res O}[Mono R](h:EV Er te Y W (sh R) m):wM Er te Y W (fz R) m:=λW1 e1 Q q=>h W1 e1 Q<|q.imp λa ka v W2 e2 hv=>ka v W2 (λ_=>False) e2 (λq hq=>hq.elim) ⟨λ_ z=>z,hv⟩
def aL(R:Rp O):Ra O:=λG a us=>∃v,us=[v]/\R G a v
instance zkeep83{R:Rp O}[Mono R]:MonoA (aL R):=⟨λe⟨v,h1,h2⟩=>⟨v,h1,Gm e h2⟩⟩
theorem lS{R:Rp O}{m:Res O}(h:EV Er te Y W (sh R) m):um Er (ah te aO) Y W (aL R) m:=λW1 e1 Q q=>h W1 e1 _<|q.imp λa ka v W2 e2 hv=>ka [v] W2 e2 ⟨v,rfl,hv⟩
def uy(C:Addr)(ns:List Str):Sp:=λvs H Q _=>∃(a dx:Addr)(us:List V),vs=.ref a::us/\us.length=ns.length/\H a=some (.ins C dx [])/\Q .non (cN H a<|.ins C dx<|ns.zip us)
def DH(RA:Ra O)(RF:Rfl O)(ns:List Str):Prop:=∀G a us,RA G a us->us.length=ns.length/\RF G a (ns.zip us)
theorem Bd{R:Rp O}:DH (aL R) (f1 f R) [f]:=λG a us⟨v,h1,h2⟩=>by subst h1;exact⟨rfl,v,rfl,h2⟩
theorem j5{R:Rp O}{RA:Ra B}{RF:Rfl B}{ns:List Str}(h:DH RA RF ns):DH (aC R RA) (fC f R RF) (f::ns):=λG a us⟨v,r,h1,h2,h3⟩=>by
 subst h1;obtain⟨h4,h5⟩:=h G a.2 r h3;exact⟨by simp[h4],v,_,rfl,h2,h5⟩
theorem lT{RA:Ra O}[MonoA RA]{RF:Rfl O}[MonoF RF]{ns:List Str}{ma:Res O}(l:DH RA RF ns)(h:um Er t Y W RA ma):EV Er (rB Cl (uy Cl ns) [] E t) Y W (sh<|isOb Cl RF) ma:=λW1 e1 Q q=>
 h W1 e1 _ (q.imp λa ka us W3 e3 hu=>by
  intro p dx hp hd ne;have gd:=W3.gnone hd;have gp:=W3.gnone hp;obtain⟨h4,h5⟩:=l _ _ _ hu;refine⟨p,dx,us,by rw[Hw],h4,ao,rfl,?_⟩;rw[rn]
  let W4:Wd:=(W3.mut dx (.own p) gd)
  have n4:W4.H p=none:=by show cN W3.H dx _ p=none;rw[ar<|HW ne];exact hp
  have E4:Ext W3 W4:=Po _ hd;have E5:Ext W4 (W4.new p (.ins Cl dx (ns.zip us))):=LY _ n4;exact ka (.ref p) (W4.new p (.ins Cl dx (ns.zip us))) ((e3.trans E4).trans E5) ⟨p,dx,_,rfl,ao,MonoF.mono (E4.trans E5).g h5⟩)
end
section
variable{Er:Nat->Prop}{O B γ δ ε ρ τ υ:Type}{ta te tp:TE}{t:TA}{Y:St}{W W0 W' W1 W2 Wi:Wd}{K:Gp}{Cl:Addr}{f m:Str}{cs:List TC}{D:Ends}{i j k l:Nat}{r:TS}{F:FS}{E:XK}
def isEi(R1:Rp O)(R2:Rp B):Rp (O ⊕ B):=λG x v=>match x with| .inl a=>R1 G a v| .inr b=>R2 G b v
instance zkeep84{R1:Rp O}{R2:Rp B}[Mono R1][Mono R2]:Mono (isEi R1 R2):=⟨λ{G G' x v}e h=>by
 cases x with
 |inl a=>exact Gm (R:=R1) e h
 |inr b=>exact Gm (R:=R2) e h⟩
theorem qX{R1:Rp O}{R2:Rp B}{m:Res O}(h:EV Er te Y W (sh R1) m):EV Er te Y W (sh<|isEi R1 R2) (m.bind λa=>.ok<|.inl a):=λW1 e1 Q q=>h W1 e1 Q<|(Gj q).imp λa ka v W2 e2 hv=>ka v W2 e2 hv
theorem Be{R1:Rp O}{R2:Rp B}{m:Res B}(h:EV Er te Y W (sh R2) m):EV Er te Y W (sh<|isEi R1 R2) (m.bind λa=>.ok<|.inr a):=λW1 e1 Q q=>h W1 e1 Q<|(Gj q).imp λa ka v W2 e2 hv=>ka v W2 e2 hv
theorem Bf{R1:Rp O}{R2:Rp B}{m:Res (O ⊕ B)}(h:EV Er te Y W (sh<|isEi R1 R2) m):EV Er te Y W (sh R1) (m.bind λa=>fR a.getLeft?):=λW1 e1 Q q=>h W1 e1 Q ((Gj q).imp λa ka v W2 e2 hv=>by
 cases a with
 |inl a=>exact ka v W2 e2 hv
 |inr b=>exact(ka:False).elim)
theorem xb{R1:Rp O}{R2:Rp B}{m:Res (O ⊕ B)}(h:EV Er te Y W (sh<|isEi R1 R2) m):EV Er te Y W (sh R2) (m.bind λa=>fR a.getRight?):=λW1 e1 Q q=>h W1 e1 Q ((Gj q).imp λa ka v W2 e2 hv=>by
 cases a with
 |inr a=>exact ka v W2 e2 hv
 |inl b=>exact(ka:False).elim)
def xc(K:Gp)(R:Rp O):Prop:=∀G a v,R G a v->∃p xs,v=.ref p/\SqT K G p xs
theorem Bg{R1:Rp O}{R2:Rp B}{R3:Rp γ}{R4:Rp δ}:xc K (isT4 K R1 R2 R3 R4):=λG a v⟨p,x,y,z,u,h0,h,_⟩=>⟨p,_,h0,h⟩
theorem xf{R2:Rp B}{m:Res (Tx ⊕ B)}(hT:xc K R2)(h:EV Er ta Y W (sh<|isEi isS R2) m):EV Er (f9 (λxs H Q=>∃x T t b,xs=[x,.ty T]/\TyOf K H x t/\Hh K t (.type T)=some b/\Q (.bl b) H)<|ah ta<|ah (tC<|.ty "str") aO) Y W (sh isB) (m.bind λa=>.ok a.isLeft):=λW1 e1 Q q=>
 h W1 e1 _ ((Gj q).imp λa ka x W2 e2 hx=>by
  cases a with
  |inl a=>
   cases (show x=.str (sOf a)from hx);exact⟨_,_,_,true,rfl,.str _,Cp _ _ _ rfl,ka _ W2 e2 rfl⟩
  |inr b=>
   obtain⟨p,xs,rfl,hq⟩:=hT _ _ _ (show R2 W2.G b x from hx);refine⟨_,_,_,false,rfl,?_,Cp "tuple" _ _ rfl,ka _ W2 e2 rfl⟩;exact .tup (Mb W2.ok hq))
open Classical in
theorem Sep.call2g{R1:Rf O}[FrT R1]{R2:Rf B}[FrT R2]{x1:O}{x2:B}{v1 v2:V}(s:Sep W0 W cs)(E:Ext W0 W)(h1:cs[k]? =some (tc R1 x1 v1))(h2:cs[l]? =some (tc R2 x2 v2))(hkl:k≠l):
  ∃W1,Ext W1 W/\Sep W1 W [tc R1 x1 v1,tc R2 x2 v2]/\∀W'(c1 c2:TC),Ext W1 W'->Sep W1 W' [c1,c2]->Ext W0 W'/\Sep W0 W' ((cs.set k c1).set l c2):=by
 obtain⟨Fs,s⟩:=s;have lv:∀q,(Fs k q\/Fs l q)->W.G q=none:=λq hq=>hq.elim (λz=>(s.lv z).1) λz=>(s.lv z).1;have k1:k<cs.length:=(Gx.mp h1).1;have k2:l<cs.length:=(Gx.mp h2).1;have nF:∀p,W0.H p≠none->¬(Fs k p\/Fs l p):=λp hp z=>z.elim (λz=>hp<|s.nw k p z) λz=>hp<|s.nw l p z
 let W1:Wd:=W.sub (λq=>Fs k q\/Fs l q) lv
 have E1:Ext W0 W1:=⟨E.g,λa u z=>by
  show(W.sub _ lv).H a=_;rw[Nj (nF a (nn_of z))];exact E.h _ _ z,λp hp=>E.k p hp⟩
 have key:∀(j:Nat)q,(if j=0 then Fs k else if j=1 then Fs l else λ_=>False) q->(j=0/\Fs k q)\/(j=1/\Fs l q):=λj q h=>by
  by_cases z:j=0;·exact .inl ⟨z,by simpa [Z1 z] using h⟩
  ·rw[Z2 z]at h;by_cases y:j=1;·exact .inr ⟨y,by simpa [Z1 y] using h⟩
   ·simp[Z2 y]at h
 refine⟨W1,Wd.sub_ext,⟨λj=>if j=0 then Fs k else if j=1 then Fs l else λ_=>False,λj c hc=>?_,λj q hq=>?_,λa b q ha hb=>?_,λj q hq=>?_⟩,λW' c1 c2 e S'=>⟨E1.trans e,?_⟩⟩
 ·match j,hc with
  |0,hc=>cases hc;exact s.el k _ h1
  |1,hc=>cases hc;exact s.el l _ h2
 ·rcases key j q hq with⟨z,_⟩|⟨z,_⟩<;>simp[z]
 ·rcases key a q ha with⟨z1,y1⟩ | ⟨z1,y1⟩ <;> rcases key b q hb with⟨z2,y2⟩ | ⟨z2,y2⟩
  ·omega
  ·exact(hkl<|s.dj k l q y1 y2).elim
  ·exact(hkl<|s.dj k l q y2 y1).elim
  ·omega
 ·exact Wd.sub_in ((key j q hq).imp (·.2) (·.2))
 ·obtain⟨Gs,g⟩:=S';have out:∀j q,Gs j q->(Fs k q\/Fs l q)\/W.H q=none:=λj q hq=>by
   by_cases z:Fs k q\/Fs l q;·exact .inl z
   ·exact .inr (by rw[<-Nj (h:=lv) z];exact g.nw j q hq)
  have keep:∀j q,j≠k->j≠l->Fs j q->¬(Fs k q\/Fs l q):=λj q n1 n2 h z=>z.elim (λz=>n1<|s.dj j k q h z) λz=>n2<|s.dj j l q h z;have key2:∀(j:Nat)q,(if j=k then Gs 0 else if j=l then Gs 1 else Fs j) q->(j=k/\Gs 0 q)\/(j=l/\j≠k/\Gs 1 q)\/(j≠k/\j≠l/\Fs j q):=λj q h=>by
   by_cases z:j=k;·exact .inl ⟨z,by simpa [Z1 z] using h⟩
   ·rw[Z2 z]at h;by_cases y:j=l;·exact .inr (.inl ⟨y,z,by simpa [Z1 y] using h⟩)
    ·exact .inr (.inr ⟨z,y,by simpa [Z2 y] using h⟩)
  refine⟨λj=>if j=k then Gs 0 else if j=l then Gs 1 else Fs j,λj c hc=>?_,λj q hq=>?_,λa b q ha hb=>?_,λj q hq=>?_⟩
  ·rw[Ju]at hc;by_cases y:l=j
   ·subst y;rw[Z1 rfl,Jb,Z1 k2]at hc;cases hc;simp only[Z2 (HW hkl),if_true];exact g.el 1 _ rfl
   ·rw[Z2 y,Ju]at hc;by_cases z:k=j
    ·subst z;rw[Z1 rfl,Z1 k1]at hc;cases hc;simp only[if_true];exact g.el 0 _ rfl
    ·rw[Z2 z]at hc;simp only[Z2 (HW z),Z2<|HW y];refine @NU _ _ c.i _ _ _ _ _ (s.el j c hc) e.g λq hq=>?_;have nk:=keep j q (HW z) (HW y) hq;have hn:(W.sub (λq=>Fs k q\/Fs l q) lv).H q≠none:=by rw[Nj nk];exact(s.lv hq).2
     exact⟨by rw[e.keepH hn];show(W.sub _ lv).H q=_;rw[Nj nk],e.k q hn⟩
  ·rw[Jb,Jb];rcases key2 j q hq with⟨z,_⟩|⟨z,_,_⟩|⟨_,_,z⟩
   ·omega
   ·omega
   ·exact s.rng j q z
  ·rcases key2 a q ha with⟨z1,y1⟩ | ⟨z1,w1,y1⟩ | ⟨z1,w1,y1⟩ <;> rcases key2 b q hb with⟨z2,y2⟩ | ⟨z2,w2,y2⟩ | ⟨z2,w2,y2⟩
   ·omega
   ·have:=g.dj 0 1 q y1 y2;omega
   ·exact((out 0 q y1).elim (keep b q z2 w2 y2) λy=>(s.lv y2).2 y).elim
   ·have:=g.dj 1 0 q y1 y2;omega
   ·omega
   ·exact((out 1 q y1).elim (keep b q z2 w2 y2) λy=>(s.lv y2).2 y).elim
   ·exact((out 0 q y2).elim (keep a q z1 w1 y1) λy=>(s.lv y1).2 y).elim
   ·exact((out 1 q y2).elim (keep a q z1 w1 y1) λy=>(s.lv y1).2 y).elim
   ·exact s.dj a b q y1 y2
  ·rcases key2 j q hq with⟨_,z⟩ | ⟨_,_,z⟩ | ⟨_,_,z⟩
   ·exact none_of E1.h<|g.nw 0 q z
   ·exact none_of E1.h<|g.nw 1 q z
   ·exact s.nw j q z
theorem Sep.call2{R1:Rf O}[FrT R1]{R2:Rf B}[FrT R2]{x1:O}{x2:B}{v1 v2:V}(s:Sep W0 W cs)(E:Ext W0 W)(h1:cs[k]? =some (tc R1 x1 v1))(h2:cs[l]? =some (tc R2 x2 v2))(hkl:k≠l):
  ∃W1,Ext W1 W/\Sep W1 W [tc R1 x1 v1,tc R2 x2 v2]/\∀W' b1 b2,Ext W1 W'->Sep W1 W' [tc R1 b1 v1,tc R2 b2 v2]->Ext W0 W'/\Sep W0 W' ((cs.set k<|tc R1 b1 v1).set l (tc R2 b2 v2)):=by
 obtain⟨W1,a,b,c⟩:=s.call2g E h1 h2 hkl;exact⟨W1,a,b,λW' b1 b2 e S'=>c W' _ _ e S'⟩
def DJ(R1:Rf τ)[FrT R1](R2:Rf υ)[FrT R2](RA:Ra O)(RR:Rp ρ)(m:τ->υ->O->Res ((τ×υ)×ρ)):Sp:=λvs H Q _=>∃(W0 W:Wd)(x1:τ)(x2:υ)(v1 v2:V)(a:O)(us:List V),W.H=H/\vs=v1::v2::us/\Ext W0 W/\Sep W0 W [tc R1 x1 v1,tc R2 x2 v2]/\RA W.G a us/\∃Er:Nat->Prop,(m x1 x2 a).OkE Er λr=>∀u W',Ext W0 W'->Same W.G W'.G->Sep W0 W' [tc R1 r.1.1 v1,tc R2 r.1.2 v2]->RR W'.G r.2 u->Q u W'.H
theorem zf{kk k2 k3:St->Hp->Prop}{k1:VK}{R1:Rf τ}[FrT R1]{R2:Rf υ}[FrT R2]{RA:Ra O}{RR:Rp ρ}{x1:τ}{x2:υ}{v1 v2:V}{ma:Res O}{mf:τ->υ->O->Res ((τ×υ)×ρ)}{i1 i2:Nat}{σ':V->St}(S:Sep W0 W cs)(E0:Ext W0 W)(h1:cs[k]? =some (tc R1 x1 v1))(h2:cs[l]? =some (tc R2 x2 v2))(hkl:k≠l)(hi1:Y[i1]? =some (some v1))(hi2:Y[i2]? =some (some v2))(ha:um Er t Y W RA ma)
  (q:(ma.bind λa=>mf x1 x2 a).OkE Er λr=>∀u W',Ext W0 W'->Same W.G W'.G->Sep W0 W' ((cs.set k<|tc R1 r.1.1 v1).set l (tc R2 r.1.2 v2))->RR W'.G r.2 u->kk (σ' u) W'.H) (hσ:∀u,Y.set j (some u)=σ' u:=by intro _;rfl):cH (aU (DJ R1 R2 RA RR mf) [] E<|ah (bC i1)<|ah (bC i2) t) (bc j) ⟨kk,k1,k2,k3⟩ Y W.H:=by
 refine⟨v1,hi1,v2,hi2,ha W (.refl _) _<|(Gj q).imp λb kb us W2 e2 hu=>?_⟩;obtain⟨W1,z1,z2,up⟩:=(S.ext e2).call2 (E0.trans e2) h1 h2 hkl;refine⟨W1,W2,x1,x2,v1,v2,b,us,rfl,by simp,z1,z2,hu,Er,kb.imp λr kr u W' e' hs S' hr=>?_⟩;obtain⟨y1,y2⟩:=up W' r.1.1 r.1.2 e' S';have:=kr u W' y1 (e2.g.trans hs) y2 hr;rw[<-hσ]at this;exact this
abbrev CI(W0 Wi:Wd)(R1:Rf τ)[FrT R1](R2:Rf υ)[FrT R2](RR:Rp ρ)(v1 v2:V)(Q:VK):(τ×υ)×ρ->Prop:=λr=>∀u W',Ext W0 W'->Same Wi.G W'.G->Sep W0 W' [tc R1 r.1.1 v1,tc R2 r.1.2 v2]->RR W'.G r.2 u->Q u W'.H
theorem fY{R1:Rf τ}[FrT R1]{R2:Rf υ}[FrT R2]{RR:Rp ρ}{x1:τ}{x2:υ}{v1 v2:V}{mm:Res ρ}(S:Sep W0 W [tc R1 x1 v1,tc R2 x2 v2])(E:Ext W0 W)(hS:Same Wi.G W.G)(h:EV Er te Y W (sh RR) mm)(q:(mm.bind λr=>.ok ((x1,x2),r)).OkE Er (CI W0 Wi R1 R2 RR v1 v2 D.rt)):d4 te D Y W.H:=
 h W (.refl _) _ ((Gj q).imp λa ka u W2 e2 hu=>ka u W2 (E.trans e2) (hS.trans e2.g) (S.ext e2) hu)
end
end Wb
open Wb.EV renaming pkD->M0
namespace Mi
def uz(l:List Int):Int:=l.foldl (λa b=>if b<a then b else a)<|l.headD 0
def xg(l:List Int):Res Int:=f6 (0<l.length)<|uz l
theorem jY:∀(l:List Int)(z:Int),(∀a∈l,l.foldl (λa b=>if b<a then b else a) z<=a)/\l.foldl (λa b=>if b<a then b else a) z<=z/\(l.foldl (λa b=>if b<a then b else a) z=z\/l.foldl (λa b=>if b<a then b else a) z∈l)
 | [],z=>⟨λa h=>(nomatch h),O0 _,.inl rfl⟩
 |b::l,z=>by
  obtain⟨h1,h2,h3⟩:=jY l (if b<z then b else z);simp only[JQ];have hb:(if b<z then b else z)<=b/\(if b<z then b else z)<=z:=by split<;>omega
  refine⟨λa ha=>?_,by omega,?_⟩
  ·rcases GK.mp ha with rfl | ha;·omega
   ·exact h1 a ha
  ·rcases h3 with h3 | h3
   ·rw[h3];by_cases c:b<z;·rw[Z1 c];exact .inr<|GD ..
    ·rw[Z2 c];exact .inl rfl
   ·exact .inr<|GB _ h3
theorem sD{l:List Int}{a:Int}(h:a∈l):uz l<=a:=(jY l _).1 a h
theorem pT{l:List Int}(h:0<l.length):uz l∈l:=by
 rcases (jY l<|l.headD 0).2.2 with e|e
 ·unfold uz;rw[e];cases l with
  |nil=>cases h
  |cons x r=>exact GD ..
 ·exact e
end Mi
namespace L2
open PySem PySem.Spec PyProof.Rows
theorem zg{X:Cx}:AA X .Sub (EO λi j=>i-j):=AD
theorem uA{X:Cx}{K:Gp}(hc:X.calm=true)(h:X.K=K):ei X (.builtin "min") (λxs H Q=>∃(p:Addr)(ns:List Int),xs=[.ref p]/\SqL K H p (ns.map Kf)/\0<ns.length/\∀M,M∈ns->(∀a∈ns,M<=a)->Q (.int M) H):=by
 subst h;intro Z_ s Y H xs us Q I r h;obtain⟨p,ns,rfl,hq,hne,q⟩:=h;obtain⟨u,rfl,rx⟩:=fx r;cases rx;obtain⟨its,r',pl,hz⟩:=I.list hq;have hi:=lh r';obtain⟨xs,e⟩:=hi.allInts.items;have hns:ns=xs.toList.map (·.1):=by
  rw[<-hi.numsOf,<-P9,<-e]
 have hsz:0<xs.size:=by
  have h3:=hne;rw[hns,GR,HU]at h3;exact h3
 have hl:s.heap.IsList p (intItems xs):=e▸pl.isList;refine min_intList (I.ok.hd hc) hl hsz λv h' tk hv hk=>?_;obtain⟨t,rfl⟩:=intItems_at hv;obtain⟨h1,h2⟩:=argBest_lt (numAt xs)<|xs.size-1;refine⟨.int _,H,I.kept hk,⟨_,rfl⟩,q _ ?_ λa ha=>?_⟩;·rw[hns,Oy];exact getD_mem (by rw[GR,HU];omega)
 ·rw[hns]at ha;obtain⟨j,hj,rfl⟩:=mem_getD ha;rw[GR,HU]at hj;rw[<-Oy];exact h2 j (by omega)
end L2
namespace Wb
open PySem L2 Mi
theorem Bh{Er:Nat->Prop}{ta:TE}{Y:St}{W:Wd}{K:Gp}{ma:Res (List Int)}(ha:EV Er ta Y W (pk isI) ma):EV Er (f9 (λxs H Q=>∃(p:Addr)(ns:List Int),xs=[.ref p]/\SqL K H p (ns.map Kf)/\0<ns.length/\∀M,M∈ns->(∀a∈ns,M<=a)->Q (.int M) H)<|ah ta aO) Y W (sh isI) (ma.bind λa=>xg a):=λW1 e1 Q k=>
 ha W1 e1 _ ((Gj k).imp λa ka x W2 e2 hx=>by
  obtain⟨p,vs,rfl,h1,h2⟩:=hx;obtain⟨h3,h4⟩:=aP ka;refine⟨p,a,rfl,Ic (by rw[h1,h2.ints]),h3,λM hM hb=>?_⟩;have e:M=uz a:=Int.le_antisymm (hb _ (pT h3)) (sD hM);rw[e];exact h4 _ W2 e2 rfl)
section
variable{Er:Nat->Prop}{O B γ ρ τ:Type}{t:TA}{Y:St}{W W0 W' Wi:Wd}{K:Gp}{Cl:Addr}{f m:Str}{cs:List TC}{D:Ends}{i j k:Nat}{E:XK}
def FLe(RF:Rfo O)(n:Nat):Prop:=∀W F a fs,RF W F a fs->fs.length=n
theorem EK{R:Rf O}:FLe (o1 f R) 1:=λW F a fs⟨v,h,_⟩=>by rw[h];rfl
theorem Bi{R:Rf O}{RF:Rfo B}{n:Nat}(g:FLe RF n):FLe (oC f R RF) (n+1):=λW F a fs⟨v,r,F1,F2,h1,h2,h3,_⟩=>by rw[h1,Hc,g _ _ _ _ h3]
theorem FLe.lt{RF:Rfo O}{n:Nat}(g:FLe RF n)(h:n<1000:=by decide):CH RF:=λW F a fs z=>by rw[g _ _ _ _ z];exact h
theorem iH{g:Str}{v x:V}{r:List (Str×V)}(h:g≠f):eZ f v ((g,x)::r)=(g,x)::eZ f v r:=Z2 h
theorem jx{v:V}:eZ f v []=[(f,v)]:=rfl
theorem jy{R:Rf τ}[FrT R]{RR:Rp ρ}{u:ρ->Dat}{RA:Ra O}{x:τ}{v:V}{ma:Res O}{mf:τ->O->Res (τ×ρ)}{csx:List Addr}{σ':V->St}(hu:pG K RR u)(hm:HasM R Cl m)(S:Sep W0 W cs)(E0:Ext W0 W)(hc:cs[k]? =some (tc R x v))(hi:Y[i]? =some (some v))(ha:um Er t Y W RA ma)(hE:Esc Er csx E W)(q:(ma.bind λa=>(mf x a).bind λr=>.ok (r.1,u r.2)).OkE Er λr=>∀w W',Ext W0 W'->Same W.G W'.G->Sep W0 W' (cs.set k<|tc R r.1 v)->isU K W'.G r.2 w->D.nx (σ' w) W'.H)(hσ:∀u,Y.set j (some u)=σ' u:=by intro _;rfl):cH (gL Cl m (sx R RA csx RR mf) [] E (bC i) t) (bc j) D Y W.H:=
 Cy (Q:=λu H=>D.nx (Y.set j<|some u) H) hm S E0 hc hi ha hE (by
  cases ma with
  |ok a=>
   show(mf x a).OkE Er _;have q:((mf x a).bind λr=>Gr (r.1,u r.2)).OkE Er _:=q;refine(Gj q).imp λr kr w W' e' hs S' hr=>?_;have:=kr w W' e' hs S'<|hu _ _ _ hr;rw[<-hσ]at this;exact this
  |err j=>exact q
  |stuck=>exact q)
end
section
variable{X:Cx}{C:Addr}{m:Str}{ps:List Str}{k:Nat}{sp:Sp}{E:XK}{pos Z7:Pos}{o:Expr}{ta:TE}
theorem nt{pl:Sem Bool}(h:CalM X.prog X.w X.K X.mg X.base (CXR X.prog X.w) C m ps k sp)(hx:fo (CXR X.prog X.w) X E)(hr:Room k X.A)(he:PE X o ta)
  (ht:eval (.Call (.Attribute o m Z7) [] [] pos) X.env=(do
   let ov <-eval o X.env
   standAt Z7.atName
   let (f,first) <-holding [ov] (getMethod ov m pl)
   callWith pos f first (backTo pos (starEach [] X.env)) (backToKw pos (keywordEach [] X.env))):=by rfl):
  PE X (.Call (.Attribute o m Z7) [] [] pos) (gL C m sp [] E ta aO):=by
 obtain⟨f,fd,F,M,c,b⟩:=h.ex;exact oU he c M F hr b .nil hx ht
end
theorem aM{X:Cx}{K:Gp}{e:Expr}{f:Str}{pos:Pos}{ta:TE}(h:X.K=K)(he:PE X e ta)(hb:attributeBase e f X.env (eval e X.env)=eval e X.env):PE X (.Attribute e f pos) (vt K ta f):=h▸AB he hb
section
variable{Er:Nat->Prop}{O B:Type}{t:TE}{Y:St}{W:Wd}{K:Gp}
def Fi(J:It)(W:Wd)(R:Rp O)(xs:List O):Prop:=∀W1:Wd,Ext W W1->(∀(i:Nat)(a:O),xs[i]? =some a->J.go i W1.H/\∀x H',J.yld i W1.H x H'->∃W2:Wd,W2.H=H'/\Ext W1 W2/\R W2.G a x)/\J.stop xs.length W1.H
def DK(Er:Nat->Prop)(wi:TI)(Y:St)(W:Wd)(R:Rp O)(m:Res (List O)):Prop:=∀W1,Ext W W1->∀P:It->Hp->Prop,m.OkE Er (λxs=>∀J W2,Ext W1 W2->Fi J W2 R xs->P J W2.H)->wi Y W1.H P
theorem lU{R:Rp O}[Mono R]{m:Res (List O)}(h:EV Er t Y W (pk R) m):DK Er (oP K t) Y W R m:=λW1 e1 P k=>
 h W1 e1 _ (k.imp λxs kx v W2 e2 hv=>by
  obtain⟨p,vs,rfl,h1,h2⟩:=hv;refine⟨p,rfl,⟨vs,Ic h1⟩,kx _ W2 e2 λW3 e3=>⟨λi a ha=>?_,vs,Ic (e3.h _ _ h1),by rw[h2.1];exact GO _⟩⟩;obtain⟨x,hx,hr⟩:=h2.get ha;refine⟨⟨vs,x,Ic (e3.h _ _ h1),hx⟩,λy H'⟨z1,z2⟩=>⟨W3,z1.symm,.refl _,?_⟩⟩;have:=z2 vs (Ic (e3.h _ _ h1));rw[hx]at this;cases this;exact Gm e3.g hr)
theorem pU{cap:List (Option Nat)}{wi:TI}{g:TG}{te:TE}{R:Rp O}{R':Rp B}[Mono R']{m:Res (List O)}{f:O->Res B}(hi:DK Er wi Y W R m)
  (hb:∀(W1:Wd)(a:O)(v:V),Ext W W1->R W1.G a v->∀Q:VK,(f a).OkE Er (λb=>∀u W2,Ext W1 W2->R' W2.G b u->Q u W2.H)->g v (bI cap Y) W1.H λσ2 H2=>Keep (bI cap Y) σ2/\te σ2 H2 Q):
  EVo Er (lA cap wi g AK te) Y W R' (m.bind λxs=>bB xs f):=λW1 e1 Q k=>by
 refine hi W1 e1 _<|(Gj k).imp λxs kx J W2 e2 hy=>?_;obtain⟨hl,kx⟩:=aP<|Gj kx;refine⟨λi n ys H=>n=xs.length-i/\i<=xs.length/\ys.length<=i/\∃(W3:Wd)(bs:List B),W3.H=H/\Ext W2 W3/\LR R' W3.G bs ys/\(mq f<|xs.drop i).OkE Er (λr=>∀p W4,Ext W1 W4->W1.H p=none->Ow R' W4 p (bs++r)->Q (.ref p) W4.H),⟨xs.length,by simp,by simp,by simp,W2,[],rfl,.refl _,.nil,?_⟩,?_⟩;·simpa using kx
 ·rintro i n ys H ⟨rfl,hi1,hyl,W3,bs,rfl,e3,lr,q⟩;refine⟨by rw[HR];unfold Mi.cap at hl;omega,?_⟩;by_cases hlt:i<xs.length
  ·obtain⟨a,ha⟩:∃a,xs[i]? =some a:=⟨xs[i],by simp[hlt]⟩
   obtain⟨h1,h2⟩:=(hy W3 e3).1 i a ha;refine .inr ⟨h1,λys' H'=>ys'.length<=i+1/\∃(W3:Wd)(bs:List B),W3.H=H'/\Ext W2 W3/\LR R' W3.G bs ys'/\(mq f<|xs.drop<|i+1).OkE Er (λr=>∀p W4,Ext W1 W4->W1.H p=none->Ow R' W4 p (bs++r)->Q (.ref p) W4.H),λys' H'⟨z1,z2⟩=>⟨xs.length-(i+1),by omega,rfl,hlt,z1,z2⟩,λx H' hx=>?_⟩;obtain⟨W4,rfl,e4,rx⟩:=h2 x H' hx;rw[tZ ha]at q;have:=hb W4 a x (e1.trans<|(e2.trans e3).trans e4) rx (λy H4=>(ys++[y]).length<=i+1/\∃(W3:Wd)(bs:List B),W3.H=H4/\Ext W2 W3/\LR R' W3.G bs (ys++[y])/\(mq f<|xs.drop<|i+1).OkE Er (λr=>∀p W4,Ext W1 W4->W1.H p=none->Ow R' W4 p (bs++r)->Q (.ref p) W4.H))
    ((Gj q).imp λb kb u W5 e5 hu=>⟨by simp;exact hyl,W5,bs++[b],rfl,(e3.trans e4).trans e5,(lr.same (e4.trans e5).g).snoc hu,(Gj kb).imp λr kr=>by rw[J8];exact kr⟩)
   exact this
  ·have e:i=xs.length:=by omega
   subst e;rw[KW]at q;refine .inl ⟨(hy W3 e3).2,λD hD=>?_⟩;have a0:=e2.trans e3;have:=q D (W3.mut D (.lst ys)<|W3.gnone hD) (a0.trans<|.own _ hD) (none_of a0.h hD) ⟨W3.gnone hD,ys,ao,by rw[Hw];exact lr⟩;exact this
theorem IV.e{R:Rp O}{wi:TI}{m:Res (List O)}(h:IV Er wi Y W R m):DK Er wi Y W R m:=λW1 e1 P k=>h W1 e1 P<|k.imp λxs kx J W2 e2 hy=>kx J W2 e2 λW3 e3=>hy W3 e3.g
theorem cF{cap:List (Option Nat)}{wi:TI}{g:TG}{te:TE}{R:Rp O}{R':Rp B}[Mono R']{m:Res (List O)}{f:O->Res B}(hi:IV Er wi Y W R m)
  (hb:∀(W1:Wd)(a:O)(v:V),Ext W W1->R W1.G a v->∀Q:VK,(f a).OkE Er (λb=>∀u W2,Ext W1 W2->R' W2.G b u->Q u W2.H)->g v (bI cap Y) W1.H λσ2 H2=>Keep (bI cap Y) σ2/\te σ2 H2 Q):
  EVo Er (lA cap wi g AK te) Y W R' (m.bind λxs=>bB xs f):=pU hi.e hb
theorem jZ{cap:List (Option Nat)}{wi:TI}{g:TG}{tf:TT}{te:TE}{R:Rp O}{R':Rp B}[Mono R']{m:Res (List O)}{f:O->Res (Option B)}(hi:DK Er wi Y W R m)
    (hb:∀(W1:Wd)(a:O)(v:V),Ext W W1->R W1.G a v->∀Q:Option V->Hp->Prop,(f a).OkE Er (λb=>∀u W2,Ext W1 W2->(match b,u with|some b,some u=>R' W2.G b u|none,none=>True|_,_=>False)->Q u W2.H)->g v (bI cap Y) W1.H λσ2 H2=>Keep (bI cap Y) σ2/\tf σ2 H2 λb H3=>if b=true then te σ2 H3 (λy H4=>Q (some y) H4)else Q none H3):
    EVo Er (lA cap wi g tf te) Y W R' (m.bind λxs=>iO xs f):=λW1 e1 Q k=>by
  refine hi W1 e1 _<|(Gj k).imp λxs kx J W2 e2 hy=>?_;obtain⟨hl,kx⟩:=aP<|Gj kx;refine⟨λi n ys H=>n=xs.length-i/\i<=xs.length/\ys.length<=i/\∃(W3:Wd)(bs:List B),W3.H=H/\Ext W2 W3/\LR R' W3.G bs ys/\(je f<|xs.drop i).OkE Er (λr=>∀p W4,Ext W1 W4->W1.H p=none->Ow R' W4 p (bs++r)->Q (.ref p) W4.H),⟨xs.length,by simp,by simp,by simp,W2,[],rfl,.refl _,.nil,?_⟩,?_⟩;·simpa using kx
  · rintro i n ys H ⟨rfl,hi1,hyl,W3,bs,rfl,e3,lr,q⟩;refine⟨by rw[HR];unfold Mi.cap at hl;omega,?_⟩;by_cases hlt:i<xs.length
    · obtain⟨a,ha⟩:∃a,xs[i]? =some a:=⟨xs[i],by simp[hlt]⟩
      obtain⟨h1,h2⟩:=(hy W3 e3).1 i a ha;refine .inr ⟨h1,λys' H'=>ys'.length<=i+1/\∃(W3:Wd)(bs:List B),W3.H=H'/\Ext W2 W3/\LR R' W3.G bs ys'/\(je f<|xs.drop<|i+1).OkE Er (λr=>∀p W4,Ext W1 W4->W1.H p=none->Ow R' W4 p (bs++r)->Q (.ref p) W4.H),λys' H'⟨z1,z2⟩=>⟨xs.length-(i+1),by omega,rfl,hlt,z1,z2⟩,λx H' hx=>?_⟩;obtain⟨W4,rfl,e4,rx⟩:=h2 x H' hx;rw[qO ha]at q
      have:=hb W4 a x (e1.trans<|(e2.trans e3).trans e4) rx (λy H4=>(match y with|some y=>ys++[y]|none=>ys).length<=i+1/\∃(W3:Wd)(bs:List B),W3.H=H4/\Ext W2 W3/\LR R' W3.G bs (match y with|some y=>ys++[y]|none=>ys)/\(je f<|xs.drop<|i+1).OkE Er (λr=>∀p W4,Ext W1 W4->W1.H p=none->Ow R' W4 p (bs++r)->Q (.ref p) W4.H))
        ((Gj q).imp λb kb u W5 e5 hu=>by
          match b,u,hu,kb with
          |some b,some u,hu,kb=>exact⟨by simp;exact hyl,W5,bs++[b],rfl,(e3.trans e4).trans e5,(lr.same (e4.trans e5).g).snoc hu,(Gj kb).imp λr kr=>by rw[J8];exact kr⟩
          |none,none,hu,kb=>exact⟨by show ys.length<=i+1;omega,W5,bs,rfl,(e3.trans e4).trans e5,lr.same (e4.trans e5).g,(Gj kb).imp λr kr=>kr⟩)
      exact this
    · have e:i=xs.length:=by omega
      subst e;rw[KW]at q;refine .inl ⟨(hy W3 e3).2,λD hD=>?_⟩;have a0:=e2.trans e3;have:=q D (W3.mut D (.lst ys)<|W3.gnone hD) (a0.trans<|.own _ hD) (none_of a0.h hD) ⟨W3.gnone hD,ys,ao,by rw[Hw];exact lr⟩;exact this
theorem pV{cap:List (Option Nat)}{wi:TI}{g:TG}{tf:TT}{te:TE}{R:Rp O}{R':Rp B}[Mono R']{m:Res (List O)}{f:O->Res (Option B)}(hi:IV Er wi Y W R m)
  (hb:∀(W1:Wd)(a:O)(v:V),Ext W W1->R W1.G a v->∀Q:Option V->Hp->Prop,(f a).OkE Er (λb=>∀u W2,Ext W1 W2->(match b,u with|some b,some u=>R' W2.G b u|none,none=>True|_,_=>False)->Q u W2.H)->g v (bI cap Y) W1.H λσ2 H2=>Keep (bI cap Y) σ2/\tf σ2 H2 λb H3=>if b=true then te σ2 H3 (λy H4=>Q (some y) H4)else Q none H3):
  EVo Er (lA cap wi g tf te) Y W R' (m.bind λxs=>iO xs f):=jZ hi.e hb
end
end Wb
namespace L2
open PySem PySem.Spec PyProof.Rows Wb
def Ag(tl:TE):TE:=λY H Q=>tl Y H λx H1=>∃a kvs,x=.ref a/\H1 a=some (.dK kvs)/\Q .non (cN H1 a<|.dK [])
theorem zh{X:Cx}{Z8 Z7:Pos}{l:Expr}{tl:TE}(hl:PE X l tl)(hbase:attributeBase l "clear" X.env (eval l X.env)=eval l X.env:=by rfl)(hline:(Z7.endLine==Z8.line)=true:=by rfl):PE X (.Call (.Attribute l "clear" Z7) [] [] Z8) (Ag tl):=by
 intro Z_ s Y H Q I h;refine Kq hbase hline<|cG (hl Z_ s Y H _ I h) λv s1 zz=>?_;obtain⟨x,H1,I1,r1,q1⟩:=zz;obtain⟨a,kvs,e,ha,q⟩:=q1;subst e;obtain rfl:v=GH a:=r1;obtain⟨t1,t2,_⟩:=qH I1<|.inl ⟨kvs,.inl ha⟩;refine⟨"dict","dict.clear",Kr,M1,PySem.F.type_dict_clear,t1,λb hb=>by cases hb;exact t2 _ rfl,Ji rfl<|Ll ?_⟩;exact yF I1 ha λs' I'=>⟨.non,_,I',rfl,q⟩
end L2
namespace Wb
open PySem L2 Mi
section
variable{Er:Nat->Prop}{O B γ ρ τ:Type}{t ta tb te:TE}{tA:TA}{Y:St}{W W0 W' Wi:Wd}{K:Gp}{D:Ends}{i j k:Nat}{r:TS}{cs:List TC}{E:XK}{Cl:Addr}{m:Str}
def oDk(g:B->Key)(R:Rp O):Rf (List<|B×O):=λW F xs v=>∃p,v=.ref p/\OwD g R W p xs/\∀q,F q↔q=p
section
variable{g:B->Key}{R:Rp O}[Mono R]
instance zkeep85:FrT (oDk g R):=⟨λ⟨p,e,o,hF⟩s k=>⟨p,e,o.keep (k p<|(hF p).mpr rfl).1 s (k p<|(hF p).mpr rfl).2,hF⟩,λ⟨p,e,o,hF⟩q hq=>by
 obtain⟨kv,a,_⟩:=o.h;rw[(hF q).mp hq];exact⟨o.g,nn_of a⟩⟩
theorem EVd.tr{mm:Res (List<|B×O)}(h:EVd Er t Y W g R mm):wM Er t Y W (oDk g R) mm:=λW1 e1 Q k=>h W1 e1 Q (k.imp λxs kx p W2 e2 hp o=>kx _ W2 (· =p) e2 (λq hq=>by rw[hq];exact hp) ⟨p,rfl,o,λ_=>JZ⟩)
theorem xh{mm:Res (List<|B×O)}(h:EV Er t Y W (vw<|oDk g R) mm):EV Er t Y W (Wb.pkD g R) mm:=h.imp λ_ _ _⟨_,p,e,o,_⟩=>by rw[e];exact o.pkD
end
end
end Wb
namespace Mi
def xi:Dat->Res Tx
 | .s x=>.ok x
 | .i n=>jS n
 |_=>.stuck
def uB{O B:Type}(f:O->Option B):List O->Option (List B)
 | []=>some []
 |a::r=>(f a).bind λb=>(uB f r).bind λs=>some (b::s)
theorem sE{O B:Type}{f:O->Option B}:∀{xs:List O}{ys:List B},uB f xs=some ys->ys.length=xs.length/\∀(i:Nat)b,ys[i]? =some b->∃a,xs[i]? =some a/\f a=some b
 | [],ys,h=>by cases h;exact⟨rfl,λi b h=>by simp at h⟩
 |a::r,ys,h=>by
  obtain⟨b,h1,h⟩:=IQ.mp h;obtain⟨s,h2,h⟩:=IQ.mp h;cases h;obtain⟨h3,h4⟩:=sE h2;refine⟨by simp[h3],λi c h=>?_⟩;cases i with
  |zero=>cases h;exact⟨a,rfl,h1⟩
  |succ i=>exact h4 i c (by simpa using h)
theorem sF{O B:Type}{f:O->Option B}{g:O->B}:∀{xs:List O},(∀a∈xs,f a=some (g a))->uB f xs=some (xs.map g)
 | [],_=>rfl
 |a::r,h=>by
  unfold uB;rw[h a<|GD ..,sF λb hb=>h b<|GB _ hb];rfl
def lV{O:Type}(d:List (Tx×O)):Res (List Tx):=f6 (d.length<64/\∀q∈d,q.1.length=1)<|(jM<|d.map λq=>((q.1.headD 0:Nat):Int)).map λi=>[i.toNat]
end Mi
namespace L2
open PySem PySem.Spec PyProof.Rows Wb
theorem pW:∀(ss:List Str)(us:List Gv),us.length=ss.length->(∀(j:Nat)(x:Str)(u:Gv),ss[j]? =some x->us[j]? =some u->∃t,u=.str x t)->Pm us ss
 | [],[],_,_=>.nil
 |x::xs,u::us,hl,h=>by
  obtain⟨t,rfl⟩:=h 0 x u rfl rfl;exact .cons x t (pW xs us (by simpa using hl) λj x u a b=>h (j+1) x u (by simpa using a) (by simpa using b))
 | [],_::_,hl,_=>by simp at hl
 |_::_,[],hl,_=>by simp at hl
theorem lW:∀{us:List Gv}{ss:List Str},Pm us ss->Vals (ss.map Jp) us
 |_,_,.nil=>.nil
 |_,_,.cons y t h=>.cons ⟨t,rfl⟩<|lW h
section
variable{X:Cx}
theorem mG(hc:X.calm=true):ei X (.builtin "sorted") (λxs H Q=>∃(p:Addr)(kvs:List (Key×V))(ss:List Str),xs=[.ref p]/\Rd H p (.dK kvs)/\kvs.map (·.1)=ss.map GU/\ss.length<64/\∀(q:Addr)(ss':List Str),H q=none->ss'.Perm ss->Lc ss'=true->Q (.ref q) (cN H q<|.lst<|ss'.map Jp)):=by
 intro Z_ s Y H xs us Q I r h;obtain⟨p,kvs,ss,rfl,hp,hks,a0,q⟩:=h;obtain⟨u,rfl,rx⟩:=fx r;cases rx;obtain⟨hz,lo,vs,kv,hD⟩:=jc I.hok hp;obtain⟨ep,hat⟩:=hD.dictAt;have hvl:vs.length=ss.length:=by
  have h1:kvs.length=vs.length:=Paired.length kv;have h2:=congrArg ID hks;simp at h2;omega
 refine Calls.call_function_entry kind_sorted plain_sorted entry_sorted (args_sorted1 _) ?_;unfold MS.«sorted»;refine Gn (m:=checkCount "sorted" 1 1 _)<|Gy ?_;refine Gn (PySem.W.kdu_collect (A:=X.A.in1) (PySem.W.kdl_dict (knd:=bK X.prog X.w) (kvs:=vs) (ep:=ep) lo) (I.ok.hd hc) hat (by rw[HR];omega) λh' tk acc hk hacc=>?_);have hal:acc.toList.length=ss.length:=by rw[HU,hacc.1,hvl]
 have hI:Pm acc.toList ss:=pW _ _ hal λj x u hx hu=>by
  obtain⟨k,y,h1,h2⟩:=hacc.2 j u (by rw[<-KH];exact hu);have h4:(kvs.map (·.1))[j]? =some k:=by
   obtain⟨a,ha,hab⟩:=iy kv h1;rw[Hd,ha];exact congrArg some hab.1
  rw[hks,Hd,hx]at h4;cases h4;rcases cu (show gI (GU x) u=true from h2)with⟨i,t,e1,rfl⟩|⟨x,t,e1,rfl⟩
  ·cases e1
  ·cases e1;exact⟨t,rfl⟩
 refine Gn (wpAny_newList ?_ (by rw[hal,HR];omega));have hoL:(h'.push<|seqObj "list" acc.toList.toArray 0).get? h'.objs.size=some (seqObj "list" acc.toList.toArray 0):=GA _ rfl;refine Gn (Ip (HK slot_list_sort ⟨_,hoL,rfl⟩ entry_list_sort (list_sort_treeK strKind_oneLt hoL hI.keysOf (λv₁ v₂ rest e=>keyKind_strs (by rw[<-e];exact hI)) (by omega) λst' b1 b2=>⟨_,rfl,?_⟩)<|args_list_sort _));obtain⟨ss',a1,a2,a3⟩:=sorted_out_str hI b1 b2;obtain⟨e,he⟩:=sortedHeap_at (h:=h'.push<|seqObj "list" acc.toList.toArray 0) (a:=h'.objs.size) (vs:=acc.toList) (out:=(arrOf st').map (·.2)) (n:=0) hoL;have hl':=a2.length_eq;have I':=I.kept (t':=tk) hk;refine Gy ⟨_,rfl,.ref h'.objs.size,_,I'.laid (t':=tk) (λb o z=>?_) (GO _) (show ObjOk X.prog X.w _ _ _ (.lst<|ss'.map Jp)from⟨by rw[GR,HR];omega,((arrOf st').map (·.2)).toList,e,lW a1,by rw[Array.toArray_toList];exact he⟩),rfl,q _ ss' (I'.hok.fresh<|GO _) a2 a3⟩;show(sortedHeap _ _ _ _).get? b=some o;rw[sortedHeap_old (GV<|GF z) (by rw[size_push'];exact NA<|GF z)];exact Gu _ z
theorem uC:ei X (.type "str") (λxs H Q=>(∃i,xs=[.int i]/\i.natAbs.log2<1920/\Q (.str<|toString i) H)\/∃x,xs=[.str x]/\Q (.str x) H):=by
 intro Z_ s Y H xs us Q I r h;rcases h with⟨i,rfl,hz,q⟩|⟨x,rfl,q⟩
 ·obtain⟨u,rfl,t,rfl⟩:=fx r;exact N6 hz ⟨.str _,H,I.tok _,⟨_,rfl⟩,q⟩
 ·obtain⟨u,rfl,t,rfl⟩:=fx r;exact PySem.P.str_of_str ⟨.str x,H,I,⟨_,rfl⟩,q⟩
end
end L2
namespace Wb
open PySem L2 Mi
section
variable{Er:Nat->Prop}{O B γ δ:Type}{t ta tb te tp:TE}{tj:TJ}{Y:St}{W W0 W':Wd}{K:Gp}{D:Ends}{i k:Nat}{r:TS}{f:Tx->Res Tx}
theorem nu:∀(l:List Nat)(c:Nat),MN (sOf [c]) (l.map λd=>sOf [d])=true->(c::l).Pairwise (· <= ·)
 | [],c,_=>List.pairwise_singleton ..
 |d::r,c,h=>by
  have h:(!PySem.Spec.ltCps [d] [c]&&MN (sOf [d]) (r.map λd=>sOf [d]))=true:=h;rw[NS]at h;have h1:c<=d:=by
   have h1:=h.1;rw[Px,K0,decide_eq_false_iff_not]at h1;exact NP λz=>h1<|List.cons_lt_cons_iff.mpr<|.inl z
  have ih:=nu r d h.2;refine Ng.mpr ⟨λx hx=>?_,ih⟩;rcases GK.mp hx with rfl|hx
  ·exact h1
  ·exact HB h1<|(Ng.mp ih).1 x hx
theorem qY:∀(l:List Nat),Lc (l.map λd=>sOf [d])=true->l.Pairwise (· <= ·)
 | [],_=>.nil
 |c::r,h=>nu r c h
theorem uD{R:Rp O}[Mono R]{ma:Res (List<|Tx×O)}(ha:EV Er ta Y W (pkD (λ(a:Tx)=>GU<|sOf a) R) ma):EVo Er (f9 (λxs H Q=>∃(p:Addr)(kvs:List (Key×V))(ss:List Str),xs=[.ref p]/\Rd H p (.dK kvs)/\kvs.map (·.1)=ss.map GU/\ss.length<64/\∀(q:Addr)(ss':List Str),H q=none->ss'.Perm ss->Lc ss'=true->Q (.ref q) (cN H q<|.lst<|ss'.map Jp))<|ah ta aO) Y W isS (ma.bind λd=>lV d):=λW1 e1 Q k=>
 ha W1 e1 _ ((Gj k).imp λd kd x W2 e2 hx=>by
  obtain⟨p,kv,rfl,o1,o2,o3⟩:=hx;obtain⟨⟨h1,h2⟩,h3⟩:=aP kd;refine⟨p,kv,d.map λq=>sOf q.1,rfl,o1,?_,by simpa using h1,λq ss' hq hp hs=>?_⟩
  ·refine KC λj=>?_;rw[Hd,Hd,Hd];cases z:d[j]? with
   |none=>
    have:kv[j]? =none:=Hv.mpr (by rw[o2];exact Hv.mp z);rw[this];rfl
   |some x=>
    have hj:j<kv.length:=by rw[o2];exact(Gx.mp z).1
    rw[Hj hj];exact congrArg some (o3 j _ x (Hj hj) z).1
  ·obtain⟨l,rfl⟩:∃l:List Nat,ss'=l.map λd=>sOf [d]:=by
    have:∀y∈ss',∃c,y=sOf [c]:=λy hy=>by
     obtain⟨z,hz,rfl⟩:=GL.mp<|hp.mem_iff.mp hy;have:=h2 z hz
     match hz1:z.1,this with
     | [c],_=>exact⟨c,rfl⟩
    clear hp hs
    induction ss' with
    |nil=>exact⟨[],rfl⟩
    |cons y r ih=>
     obtain⟨c,rfl⟩:=this y<|GD ..;obtain⟨l,rfl⟩:=ih λy hy=>this y<|GB _ hy;exact⟨c::l,rfl⟩
   have hd:(d.map λq=>sOf q.1)=(d.map λq=>q.1.headD 0).map λc=>sOf [c]:=by
    rw[HP];refine Iz λq hq=>?_;have:=h2 q hq;show sOf q.1=sOf [q.1.headD 0]
    match q.1,this with
    | [c],_=>rfl
   rw[hd]at hp;have inj:∀a b:Nat,sOf [a]=sOf [b]->a=b:=λa b h=>by
    have:=congrArg (λz:Str=>z.cps.toList) h;simpa [sOf] using this
   have hp2:l.Perm (d.map λq=>q.1.headD 0):=by
    have:=hp.map λs:Str=>s.cps.toList.headD 0;rw[HP,HP]at this;have e:((λs:Str=>s.cps.toList.headD 0)∘λd=>sOf [d])=id:=funext λc=>by simp[sOf]
    rw[e,O1,O1]at this;exact this
   have hp3:(l.map λ(c:Nat)=>(c:Int)).Perm (d.map λq=>((q.1.headD 0:Nat):Int)):=by
    have:=hp2.map λ(c:Nat)=>(c:Int)
    rw[HP]at this;exact this
   have hw:(l.map λ(c:Nat)=>(c:Int)).Pairwise (· <= ·):=LV.mpr ((qY l hs).imp λh=>by omega);have hl:l.map (λd=>Jp<|sOf [d])=((jM<|d.map λq=>((q.1.headD 0:Nat):Int)).map λi=>[i.toNat]).map λz=>Jp (sOf z):=by
    rw[<-mX hp3 hw,HP,HP];refine Iz λc _=>?_;simp
   refine h3 q (W2.mut q (.lst _)<|W2.gnone hq) (e2.trans<|.own _ hq) (none_of e2.h hq) ⟨W2.gnone hq,_,ao,?_⟩;rw[HP];show LR isS _ _ (l.map λd=>Jp<|sOf [d]);rw[hl];exact⟨by rw[GR],λi v m a b=>by
    rw[Hd,b]at a;cases a;rfl⟩)
theorem zj{ma:Res Dat}(ha:EV Er ta Y W (sh<|isU K) ma):EV Er (f9 (λxs H Q=>(∃i:Int,xs=[.int i]/\i.natAbs.log2<1920/\Q (.str<|toString i) H)\/∃x,xs=[.str x]/\Q (.str x) H)<|ah ta aO) Y W (sh isS) (ma.bind λi=>xi i):=λW1 e1 Q k=>
 ha W1 e1 _ ((Gj k).imp λa ka x W2 e2 hx=>by
  cases hx with
  |s=>exact .inr ⟨_,rfl,ka _ W2 e2 rfl⟩
  |i=>
   obtain⟨h1,h2⟩:=aP ka;exact .inl ⟨_,rfl,h1,h2 _ W2 e2<|congrArg Jp<|oq _⟩
  |n=>exact(ka:False).elim
  |b=>exact(ka:False).elim
  |t=>exact(ka:False).elim
  |l=>exact(ka:False).elim)
theorem zk{m:Res Dat}(he:EV Er te Y W (sh<|isU K) m)(h:JV Er tj Y W f):JV Er (z7 te tj) Y W λacc=>m.bind λi=>(xi i).bind λy=>(bS acc y).bind f:=λW1 e1 acc Q k=>
 he W1 e1 _ ((Gj k).imp λd kd v W2 e2 hv=>by
  cases hv with
  |s=>exact iD (m:=.ok _) (te:=λY H Q=>Q _ H) (W:=W1) (λW3 _ Q k=>k _ W3 (.refl _) rfl) (λW3 e3=>h W3<|e1.trans e3) W2 e2 acc Q (kd.imp λout ko W3 e3=>ko W3<|e2.trans e3)
  |i=>exact jq (m:=.ok _) (te:=λY H Q=>Q _ H) (W:=W1) (λW3 _ Q k=>k _ W3 (.refl _) rfl) (λW3 e3=>h W3<|e1.trans e3) W2 e2 acc Q (kd.imp λout ko W3 e3=>ko W3<|e2.trans e3)
  |n=>exact(kd:False).elim
  |b=>exact(kd:False).elim
  |t=>exact(kd:False).elim
  |l=>exact(kd:False).elim)
theorem Bj{R:Rp O}{g:Dat->Option O}{wi:TI}{m:Res (List Dat)}(hg:Ab K R g)(h:IV Er wi Y W (isU K) m):IV Er wi Y W R (m.bind λxs=>fR<|uB g xs):=λW1 e1 P k=>
 h W1 e1 P ((Gj k).imp λxs kx J W2 e2 hy=>by
  obtain⟨ys,h1,h2⟩:=dJ kx;obtain⟨hl,hm⟩:=sE h1;refine h2 J W2 e2 λW3 e3=>⟨λi b hb=>?_,by rw[hl];exact(hy W3 e3).2⟩
  obtain⟨a,ha,hab⟩:=hm i b hb;obtain⟨g1,g2⟩:=(hy W3 e3).1 i a ha;exact⟨g1,λx H' hx=>by
   obtain⟨W4,z1,z2,z3⟩:=g2 x H' hx;exact⟨W4,z1,z2,hg _ _ _ _ z3 hab⟩⟩)
theorem Bk[DecidableEq B]{g:B->Key}{R:Rp O}[Mono R]{Rk:Rp B}{ma:Res (List<|B×O)}{mk:Res B}(hg:∀a b,g a=g b->a=b)(hk:∀H b v,Rk H b v->v=kV (g b))(h:EV Er tb Y W (sh Rk) mk)(ha:EV Er ta Y W (Wb.pkD g R) ma):
  EV Er (C3 tb ta) Y W (sh isB) (mk.bind λk=>ma.bind λd=>.ok (look d k).isSome):=λW1 e1 Q k=>h W1 e1 _ ((Gj k).imp λb kb v W2 e2 hv=>ha W2 (e1.trans e2) _ ((Gj kb).imp λxs kx x W3 e3 hx=>by
  obtain⟨p,kv,rfl,o1,o2,o3⟩:=hx;have hl:=fE hg kv xs o2 o3 b;refine⟨p,fq kv<|g b,rfl,by rw[hk _ _ _ hv];exact .inl ⟨kv,g b,o1,rfl,rfl⟩,?_⟩;have:(fq kv<|g b).isSome=(look xs b).isSome:=by
   cases z:look xs b with
   |none=>rw[z]at hl;have hl:fq kv (g b)=none:=hl;rw[hl];rfl
   |some a=>rw[z]at hl;obtain⟨u,hu,_⟩:=hl;rw[hu];rfl
  rw[this];exact kx _ W3 (e2.trans e3) rfl))
def oP2(R1:Rf O)(R2:Rf B):Rf (O×B):=λW F a v=>∃(p:Addr)(u1 u2:V)(F1 F2:FS),v=.ref p/\W.G p=none/\W.H p=some (.lst [u1,u2])/\R1 W F1 a.1 u1/\R2 W F2 a.2 u2/\¬F1 p/\¬F2 p/\(∀q,F1 q->F2 q->False)/\∀q,F q↔q=p\/F1 q\/F2 q
section
variable{R1:Rf O}{R2:Rf B}[FrT R1][FrT R2]
instance zkeep88:FrT (oP2 R1 R2):=⟨λ⟨p,u1,u2,F1,F2,e,g,h,t1,t2,n1,n2,dj,hF⟩s k=>by
 have kp:=k p<|(hF p).mpr (.inl rfl);exact⟨p,u1,u2,F1,F2,e,by rw[kp.2];exact g,by rw[kp.1];exact h,NU t1 s λq hq=>k q<|(hF q).mpr (.inr<|.inl hq),NU t2 s λq hq=>k q<|(hF q).mpr (.inr<|.inr hq),n1,n2,dj,hF⟩,λ⟨p,u1,u2,F1,F2,e,g,h,t1,t2,n1,n2,dj,hF⟩q hq=>by
 rcases (hF q).mp hq with rfl|z|z;·exact⟨g,nn_of h⟩
 ·exact Mo t1 q z
 ·exact Mo t2 q z⟩
theorem xj{m1:Res O}{m2:Res B}(h1:wM Er ta Y W R1 m1)(h2:wM Er tb Y W R2 m2):wM Er (df<|ah ta<|ah tb aO) Y W (oP2 R1 R2) (m1.bind λa=>m2.bind λb=>.ok (a,b)):=λW1 e1 Q k=>
 h1 W1 e1 _ ((Gj k).imp λa ka v W2 F e2 hF hv=>h2 W2 (e1.trans e2) _ ((Gj ka).imp λb kb u W3 F' e3 hF' hu=>⟨iY (n:=2) ⋯,λp hp=>by
  have hv3:=Pr hv e3;have hl:=Mo hv3;have hl':=Mo hu;have E:=Po (.lst [v,u]) hp;have a0:=e2.trans e3;refine kb _ (W3.mut p (.lst [v,u])<|W3.gnone hp) (λq=>q=p\/F q\/F' q) (a0.trans E) (λq hq=>?_) ⟨p,v,u,F,F',rfl,W3.gnone hp,ao,Pr hv3 E,Pr hu E,λz=>(hl p z).2 hp,λz=>(hl' p z).2 hp,λq z1 z2=>(Mo hv q z1).2 (hF' q z2),λq=>JZ⟩;rcases hq with rfl|z|z
  ·exact none_of a0.h hp
  ·exact hF q z
  ·exact none_of e2.h (hF' q z)⟩))
theorem zl{ma:Res (O×B)}(h:EV Er ta Y W (vw<|oP2 R1 R2) ma):EV Er (dW (cT K) ta<|tC<|.int 0) Y W (vw R1) (ma.bind λa=>.ok a.1):=λW1 e1 Q k=>
 h W1 e1 _ ((Gj k).imp λa ka v W2 e2 hv=>by
  obtain⟨F,p,u1,u2,F1,F2,rfl,g,h,t1,t2,_⟩:=hv;exact⟨p,[u1,u2],0,u1,rfl,rfl,Ic h,rfl,ka u1 W2 e2 ⟨F1,t1⟩⟩)
theorem zm{ma:Res (O×B)}(h:EV Er ta Y W (vw<|oP2 R1 R2) ma):EV Er (dW (cT K) ta<|tC<|.int 1) Y W (vw R2) (ma.bind λa=>.ok a.2):=λW1 e1 Q k=>
 h W1 e1 _ ((Gj k).imp λa ka v W2 e2 hv=>by
  obtain⟨F,p,u1,u2,F1,F2,rfl,g,h,t1,t2,_⟩:=hv;exact⟨p,[u1,u2],1,u2,rfl,rfl,Ic h,rfl,ka u2 W2 e2 ⟨F2,t2⟩⟩)
theorem CJ{C:γ->List TC}{ma:Res ((O×B)×(O×B->γ))}(h:EV Er ta Y W (Lens W0 C<|oP2 R1 R2) ma):EV Er (dW (cT K) ta<|tC<|.int 0) Y W (Lens W0 C R1) (ma.bind λa=>.ok (a.1.1,λb=>a.2 (b,a.1.2))):=λW1 e1 Q k=>
 h W1 e1 _ ((Gj k).imp λa ka v W2 e2⟨F,⟨p,u1,u2,F1,F2,e,g,h,t1,t2,n1,n2,dj,hF⟩,hn,up⟩=>by
  subst e;refine⟨p,[u1,u2],0,u1,rfl,rfl,Ic h,rfl,ka u1 W2 e2 ⟨F1,t1,λq hq=>hn q<|(hF q).mpr (.inr<|.inl hq),λW' F' b' mu hF' t'=>?_⟩⟩;refine up W' (λq=>q=p\/F' q\/F2 q) (b',a.1.2) (mu.up λq hq=>(hF q).mpr (.inr<|.inl hq)) (λq hq=>?_) ⟨p,u1,u2,F',F2,rfl,by rw[mu.k p<|nn_of h];exact g,by rw[mu.h p n1<|nn_of h];exact h,t',Qq t2 mu λq a b=>dj q b a,λz=>(hF' p z).elim n1 (nn_of h),n2,λq z1 z2=>(hF' q z1).elim (λy=>dj q y z2) (Mo t2 q z2).2,λq=>JZ⟩;rcases hq with z|z|z
  ·exact .inl ((hF q).mpr (.inl z))
  ·exact(hF' q z).imp (λy=>(hF q).mpr (.inr<|.inl y)) id
  ·exact .inl ((hF q).mpr (.inr (.inr z))))
theorem CK{C:γ->List TC}{ma:Res ((O×B)×(O×B->γ))}(h:EV Er ta Y W (Lens W0 C<|oP2 R1 R2) ma):EV Er (dW (cT K) ta<|tC<|.int 1) Y W (Lens W0 C R2) (ma.bind λa=>.ok (a.1.2,λb=>a.2 (a.1.1,b))):=λW1 e1 Q k=>
 h W1 e1 _ ((Gj k).imp λa ka v W2 e2⟨F,⟨p,u1,u2,F1,F2,e,g,h,t1,t2,n1,n2,dj,hF⟩,hn,up⟩=>by
  subst e;refine⟨p,[u1,u2],1,u2,rfl,rfl,Ic h,rfl,ka u2 W2 e2 ⟨F2,t2,λq hq=>hn q<|(hF q).mpr (.inr<|.inr hq),λW' F' b' mu hF' t'=>?_⟩⟩;refine up W' (λq=>q=p\/F1 q\/F' q) (a.1.1,b') (mu.up λq hq=>(hF q).mpr (.inr<|.inr hq)) (λq hq=>?_) ⟨p,u1,u2,F1,F',rfl,by rw[mu.k p<|nn_of h];exact g,by rw[mu.h p n2<|nn_of h];exact h,Qq t1 mu λq a b=>dj q a b,t',n1,λz=>(hF' p z).elim n2 (nn_of h),λq z1 z2=>(hF' q z2).elim (λy=>dj q z1 y) (Mo t1 q z1).2,λq=>JZ⟩;rcases hq with z|z|z
  ·exact .inl ((hF q).mpr (.inl z))
  ·exact .inl ((hF q).mpr (.inr<|.inl z))
  ·exact(hF' q z).imp (λy=>(hF q).mpr (.inr (.inr y))) id)
theorem xl{kk k2 k3:St->Hp->Prop}{k1:VK}{g:δ->Key}{R:Rp O}[Mono R]{C:γ->List TC}{mp:Res (List (δ×O)×(List (δ×O)->γ))}(E:Ext W0 W)(hp:EV Er tp Y W (Lens W0 C<|oDk g R) mp)(q:(mp.bind λp=>.ok<|p.2 []).OkE Er λa'=>∀W',Same W.G W'.G->Ext W0 W'->Sep W0 W' (C a')->kk Y W'.H):
  bE (Ag tp) ⟨kk,k1,k2,k3⟩ Y W.H:=hp W (.refl _) _ ((Gj q).imp λp kp u W1 e1⟨F,⟨b,e,o,hF⟩,hn,up⟩=>by
 subst e;obtain⟨kv,a,_⟩:=o.h;have hb:F b:=(hF b).mpr rfl;refine⟨b,kv,rfl,a,?_⟩;exact kp (W1.mut b (.dK []) o.g) e1.g ((E.trans e1).mut (hn b hb) o.g) (up (W1.mut b (.dK []) o.g) (· =b) [] (Pq hb o.g) (λq hq=>.inl (by rw[hq];exact hb)) ⟨b,rfl,⟨o.g,[],ao,rfl,λi q x h=>by simp at h⟩,λ_=>JZ⟩))
end
end
section
variable{P:GQ}{w:Ha}{K:Gp}{mg:Str->Option Gv}{base h:Heap}{x q m:Str}{st:Stmt}{ps:List Str}{n:Nat}{sp:Sp}{f C aB N:Addr}{CX:CXT}
theorem DI.calH{sp:Addr->Addr->Sp}(d:DI K x st ps)(X:K.In h)(G:h.Ns mainGlobals mg)(r:∀{f fd},Fun K x x st f fd->FnOkH P w K mg base n f fd ps sp):CalH P w K mg base x ps n sp:=by
 obtain⟨f,fd,F,a,b⟩:=d;exact⟨f,fd,r F,Hk X G a,F.kp,b⟩
def MB(K:Gp)(C:Addr)(m q:Str)(st:Stmt)(ps:List Str):Prop:=∃f fd,Fun K m q st f fd/\(GZ K (.ref C) m=some (some<|.ref f)/\Ln K (.ref f)=true)/\Binds K fd ps []
theorem MB.mk{oc:Gv}{od an:Option Addr}{osl:Array (Option Gv)}{kV doc pm Z9 ct:Gv}(da:GZ K (.ref C) m=some (some<|.ref f))(dy:Ln K (.ref f)=true)(dl:K.lookup f=some ⟨oc,od,.func<|IU m q (defArgs st) (defBody st) (defScope st) .none kV doc pm an Z9 ct,osl⟩)
  (dc:K7 K Z9 q=true) (dk:I9 K (.ref f)=true) (db:∀(kV doc pm:Gv)(an:Option Addr)(Z9 ct:Gv)(us:List Gv),bindArgs (IU m q (defArgs st) (defBody st) (defScope st) .none kV doc pm an Z9 ct) ⟨B9 ps us,[]⟩=pure (ps.zip<|B9 ps us)):MB K C m q st ps:=
 ⟨f,_,lp dl dc dk,⟨da,dy⟩,(lp dl dc dk).binds λkV doc pm an Z9 ct us hl=>by
  have:=db kV doc pm an Z9 ct us;rw[qU ps us hl]at this;exact this⟩
theorem MB.cal(d:MB K C m q st ps)(c:Cls K C)(r:∀{f fd},Fun K m q st f fd->FnOk P w K mg base CX n f fd ps sp):CalM P w K mg base CX C m ps n sp:=by
 obtain⟨f,fd,F,a,b⟩:=d;exact⟨f,fd,r F,⟨a.1,a.2,F.kp⟩,c,b⟩
def NB(K:Gp):List Str->Prop
 | []=>True
 |x::r=>Iu K mainGlobals x=some none/\NB K r
def NG(mg:Str->Option Gv):List Str->Prop
 | []=>True
 |x::r=>mg x=none/\NG mg r
theorem NB.cons{l:List Str}(a:Iu K mainGlobals x=some none)(b:NB K l):NB K (x::l):=⟨a,b⟩
theorem NB.nil:NB K []:=trivial
theorem NB.all(X:K.In h)(G:h.Ns mainGlobals mg):∀{l:List Str},NB K l->NG mg l
 | [],_=>trivial
 |_::_,z=>⟨PySem.W.mg_none_of X G z.1,NB.all X G z.2⟩
structure CB(K:Gp)(x:Str)(C:Addr):Prop where
 u:Iu K mainGlobals x=some (some<|.ref C)
 c1:Kc K C NK=true
 c2:Kw K C=true
 c3:LN K C=true
 c4:GZ K (.ref C) "__setattr__"=some (some<|.builtin "object.__setattr__")
 c5:Mq K C=true
 c6:I9 K (.ref C)=true
theorem CB.cls(b:CB K x C):Cls K C:=⟨b.c1,b.c2,b.c3,b.c4⟩
theorem MB.calI(d:MB K C "__init__" q st ps)(c:CB K x C)(X:K.In h)(G:h.Ns mainGlobals mg)(r:∀{f fd},Fun K "__init__" q st f fd->FnOk P w K mg base CX0 n f fd ps sp):CalI P w K mg base x C ps n sp:=by
 obtain⟨f,fd,F,a,b⟩:=d;exact⟨f,fd,⟨c.c5,a.1,a.2,c.c6⟩,r F,Hk X G c.u,b⟩
def XB(K:Gp)(x:Str)(aB C:Addr):Prop:=Iu K mainGlobals x=some (some<|.ref C)/\Cx1 K aB C
section
variable{nm qq:Str}{bs su:List Gv}{hd ab:Bool}{sn:List Str}{co:Option Bool}{dd:Option Addr}{k0 k1 k2 k3 k5:Option Gv}
theorem XB.mk(u:Iu K mainGlobals x=some (some<|.ref C))(v:K.lookup C=some (excClassObj nm qq C N bs [.ref aB,.type "ValueError",.type "Exception",.type "BaseException",.type "object"] hd sn su ab co dd k0 k1 k2 k3 k5 "ValueError.__new__"))
  (ga:GZ K (.ref C) "__getattribute__"=some (some<|.builtin "BaseException.__getattribute__")) (gt:GZ K (.ref C) "__getattr__"=some none) (cl:GZ K (.ref C) "__class__"=some (some<|.builtin "object.__class__")):XB K x aB C:=
 ⟨u,⟨_,_,_,_,_,_,_,_,_,_,_,_,_,_,_,v⟩,ga,gt,cl⟩
def XN(K:Gp)(C:Addr)(bm:List Gv):Prop:=∃N o es ep,XcK K C N bm/\K.lookup N=some o/\o.data=.dict es ep/\Og es/\nsFind es "__init__"=none
theorem XN.mk{bm:List Gv}{o1:Gv}{o2:Option Addr}{es:Array J9}{ep:Nat}{o3:Array (Option Gv)}(v:K.lookup C=some (excClassObj nm qq C N bs bm hd sn su ab co dd k0 k1 k2 k3 k5 "ValueError.__new__"))(nn:K.lookup N=some ⟨o1,o2,.dict es ep,o3⟩)(sk:Og es)(ni:nsFind es "__init__"=none):XN K C bm:=
 ⟨N,_,es,ep,⟨_,_,_,_,_,_,_,_,_,_,_,_,_,_,v⟩,nn,rfl,sk,ni⟩
end
theorem XN.ecl(X:K.In base)(a:XN K C (.ref aB::vE))(t:XN K aB vE):Ecl base C:=by
 obtain⟨N,o,es,ep,h1,h2,h3,h4,h5⟩:=a;obtain⟨N',o',es',ep',g1,g2,g3,g4,g5⟩:=t;exact Ecl.of X h1 g1 h2 h3 h4 h5 g2 g3 g4 g5
theorem XN.kin{cs:List Addr}(t:XN K aB vE)(X:K.In base)(hn:LO K (.builtin "object.__class__") "__get__"=some (some<|.builtin "getset_descriptor.__get__"))(ht:Mr K (.builtin "object.__class__")=some true)(len:cs.length=13)(nd:(aB::cs).Nodup)(all:∀C∈cs,Cx1 K aB C):Kin K base cs aB:=by
 obtain⟨N,_,_,_,h,_⟩:=t;exact Kin.of X hn ht len nd h all
end
end Wb
open Wb.XN renaming ecl->Pu
namespace Mi
noncomputable section
abbrev cV:Type:=List<|Tx×Int
abbrev eW:=Dat×(List Cd)×(List Int)×(List Int)×cV×(Option<|List Pl)
abbrev Z02:=Int×eW×(List eW)×(List eW)
@[irreducible]noncomputable def DM(Z0A:List Int)(l_k:Int):Res Int:=if(decide<|l_k<(Z0A.length:Int))then gS Z0A l_k else(pj ((l_k*48271)+(11:Int))<|(Z0A.length:Int)+(7:Int)).bind λy8=>Gr<|y8%1000003
def iI(Z0A:List Int)(l_k:Int):Res Int:=DM Z0A l_k
@[irreducible]noncomputable def BI(Z04:Int)(Z2t:Int)(a19:Int)(s20:(Int×Int×(List Int))):Res (Int×Int×(List Int)):=((if(decide<|(1000000000000000000:Int)<=en Z04)then Gr (decide<|(0:Int)<s20.2.1)else Gr false).bind λy45=>(if y45 then((mj s20.2.1 Z2t).bind λy56=>eG s20.2.2 y56).bind λy55=>(rN s20.2.1 Z2t).bind λy59=>Gr (y59,y55)else((((pj ((((s20.1*48271)+(7919:Int))+a19)%2147483647)<|(((s20.1*48271)+(7919:Int))+a19)%2147483647).bind λy63=>Gr<|y63%1000003).bind λy64=>mj y64 Z2t).bind λy69=>eG s20.2.2 y69).bind λy68=>Gr (s20.2.1,y68):Res (Int×(List Int)))).bind λs70=>Gr (((((s20.1*48271)+(7919:Int))+a19)%2147483647),s70.1,s70.2)
@[irreducible]noncomputable def DN(Z04:Int)(Z1W:Int)(Z2t:Int):Res (List Int):=((hU Z1W).bind λy78=>cg (BI Z04 Z2t) y78 (((en Z04)%2147483647),en Z04,([]:List Int))).bind λs79=>Gr s79.2.2
def lX(Z04:Int)(Z1W:Int)(Z2t:Int):Res (List Int):=DN Z04 Z1W Z2t
@[irreducible]noncomputable def BJ(y3:Int)(y8:List Int)(a15:Int)(s16:Tx):Res Tx:=(((((gS y8 (4:Int)).bind λy39=>((mj a15 y3).bind λy38=>Gr<|y38*7).bind λy40=>Gr<|y39+y40).bind λy41=>Gr<|y41%26).bind λy42=>iX ([97,98,99,100,101,102,103,104,105,106,107,108,109,110,111,112,113,114,115,116,117,118,119,120,121,122]:Tx) y42).bind λy43=>bS s16 y43).bind λy44=>Gr y44
@[irreducible]noncomputable def DO(lX:Int->Int->Int->Res (List Int))(Z04:Int):Res Tx:=(gS [(1:Int),(2:Int),(3:Int),(4:Int),(26:Int)]<|Z04%5).bind λy3=>(lX (Z04/5) (5:Int) (26:Int)).bind λy8=>(cg (BJ y3 y8) (cut y8 none<|some (4:Int)) ([]:Tx)).bind λs47=>Gr s47
def zo(Z04:Int):Res Tx:=DO lX Z04
@[irreducible]noncomputable def DP(zo:Int->Res Tx)(Z04:Int):Res Cd:=(iX ([83,90]:Tx)<|Z04%2).bind λy1=>(zo<|Z04/8).bind λy2=>Gr (y1,y2,((Z04/2)%4))
def ye(Z04:Int):Res Cd:=DP zo Z04
@[irreducible]noncomputable def DQ(ye:Int->Res Cd)(iI:List Int->Int->Res Int)(Z0A:List Int)(Z2B:Int)(Z1g:Int):Res (List Cd):=(hU Z1g).bind λy12=>bB y12<|λ(a1:Int)=>(iI Z0A<|Z2B+a1).bind λy9=>ye y9
def uZ(Z0A:List Int)(Z2B:Int)(Z1g:Int):Res (List Cd):=DQ ye iI Z0A Z2B Z1g
@[irreducible]noncomputable def DS(Z04:Int):Res Int:=if(decide<|(Z04%3)=(0:Int))then Gr ((999999999:Int)-((Z04/3)%2))else Gr ((Z04/3)%9)
def zp(Z04:Int):Res Int:=DS Z04
@[irreducible]noncomputable def BK(Z04:Int)(y9:List Int)(a40:Tx)(s41:(Int×cV)):Res (Int×cV):=(((gS y9 s41.1).bind λy65=>Gr<|y65%23).bind λy66=>Gr<|decide<|y66=(5:Int)).bind λy67=>((if(!(look s41.2 a40).isSome)then Gr (!y67)else Gr false).bind λy70=>(if y70 then((gS y9 s41.1).bind λy80=>gr s41.2 a40 y80).bind λy81=>(if(decide<|(Z04%3)=(0:Int))then(gr y81 a40 (999999999:Int)).bind λy91=>Gr y91 else Gr y81:Res cV).bind λs93=>Gr s93 else Gr s41.2:Res cV)).bind λs102=>Gr ((s41.1+(1:Int)),s102)
@[irreducible]noncomputable def BL(Z04:Int)(y9:List Int)(a16:Cd)(s17:(Int×cV)):Res (Int×cV):=(cg (BK Z04 y9) (aW a16.2.1) (s17.1,s17.2)).bind λs114=>Gr (s114.1,s114.2)
@[irreducible]noncomputable def DT(lX:Int->Int->Int->Res (List Int))(Z0I:List Cd)(Z04:Int):Res cV:=(lX (Z04/3) (40:Int) (997:Int)).bind λy9=>(cg (BL Z04 y9) Z0I ((0:Int),([]:List (Tx×Int)))).bind λs118=>((((gS y9 (39:Int)).bind λy122=>Gr<|y122%2).bind λy123=>Gr<|decide<|y123=(1:Int)).bind λy124=>(if y124 then(((gS y9 (38:Int)).bind λy134=>((((gS y9 (38:Int)).bind λy131=>Gr<|y131%3).bind λy132=>Gr<|decide<|(0:Int)<y132).bind λy133=>Gr (if y133 then(1:Int)else 0)).bind λy135=>pj y134 y135).bind λy139=>gr s118.2 ([113]:Tx) y139).bind λy140=>Gr y140 else Gr s118.2:Res cV)).bind λs142=>Gr s142
def zq(Z0I:List Cd)(Z04:Int):Res cV:=DT lX Z0I Z04
@[irreducible]noncomputable def DU(iI:List Int->Int->Res Int)(uZ:List Int->Int->Int->Res (List Cd))(zp:Int->Res Int)(zq:(List Cd)->Int->Res cV)(Z0A:List Int):Res ((List Cd)×Int×cV):=(((iI Z0A (0:Int)).bind λy3=>Gr<|y3%8).bind λy4=>Gr<|(1:Int)+y4).bind λy5=>((uZ Z0A (1:Int) (if(6:Int)<y5 then(6:Int)else y5)).bind λy10=>(uZ Z0A (60:Int) (if(y5-(6:Int))>(0:Int)then(y5-(6:Int))else(0:Int))).bind λy11=>AO y10 y11).bind λy12=>((iI Z0A (7:Int)).bind λy15=>zp y15).bind λy17=>((iI Z0A (8:Int)).bind λy16=>zq y12 y16).bind λy18=>Gr (y12,y17,y18)
def zr(Z0A:List Int):Res ((List Cd)×Int×cV):=DU iI uZ zp zq Z0A
@[irreducible]noncomputable def CL(draft:List Cd)(spools:List (Tx×Int)):Res eW:=(((wJ [(0:Int)] (draft.length:Int)).bind λy2=>((wJ [(0:Int)] (draft.length:Int)).bind λy1=>Gr (y1,(spools,(none:Option (List Pl))))).bind λy3=>Gr (y2,y3)).bind λy4=>Gr (draft,y4)).bind λy5=>Gr (O8,y5)
def zt(draft:List Cd)(spools:List (Tx×Int)):Res eW:=CL draft spools
@[irreducible]noncomputable def CM(zt:(List Cd)->cV->Res eW)(draft:List Cd)(most:Int)(spools:List (Tx×Int)):Res Z02:=(zt draft spools).bind λy7=>Gr (most,y7,([]:List eW),([]:List eW))
def yf(draft:List Cd)(most:Int)(spools:List (Tx×Int)):Res Z02:=CM zt draft most spools
abbrev ef:Type:=(List Cd)×(List Int)×(List Int)×cV
@[irreducible]noncomputable def DV(Z0I:List Cd)(Z0X:List (Tx×Int)):Res ef:=(bB Z0I<|λ(a1:Cd)=>Gr (0:Int)).bind λy19=>(bB Z0I<|λ(a10:Cd)=>Gr (0:Int)).bind λy20=>Gr (Z0I,y19,y20,Z0X)
def zu(Z0I:List Cd)(Z0X:List (Tx×Int)):Res ef:=DV Z0I Z0X
@[irreducible]noncomputable def CN(self:Z02):Res (List Dat):=bB self.2.2.1<|λ(a1:eW)=>Gr a1.1
def pX(self:Z02):Res (List Dat):=CN self
@[irreducible]noncomputable def CO(pX:Z02->Res (List Dat))(loom:Z02):Res Tx:=((((bS ([]:Tx) [108,111,111,109,32]).bind λy7=>(jS loom.1).bind λy9=>(bS y7 y9).bind λy8=>Gr y8).bind jT).bind λy10=>Gr [y10]).bind λy11=>(((lV loom.2.1.2.2.2.2.1).bind λy33=>bB y33<|λ(a16:Tx)=>((bS ([]:Tx) [115,112,111,111,108,32]).bind λy24=>(bS y24 a16).bind λy25=>(bS y25 [32]).bind λy27=>(getD loom.2.1.2.2.2.2.1 a16).bind λy30=>(jS y30).bind λy29=>(bS y27 y29).bind λy28=>Gr y28).bind jT).bind λy38=>mF y11 y38).bind λy37=>((bB loom.2.1.2.1<|λ(a39:Cd)=>((bS ([]:Tx) [116,97,98,108,101,116,32]).bind λy50=>(bS y50 a39.1).bind λy51=>(bS y51 [32]).bind λy53=>(bS y53 a39.2.1).bind λy54=>(bS y54 [32]).bind λy56=>(jS a39.2.2).bind λy58=>(bS y56 y58).bind λy57=>Gr y57).bind jT).bind λy65=>mF y37 y65).bind λy64=>((((pX loom).bind λy66=>fR<|uB (DF oK some) y66).bind λy83=>bB y83<|λ(a67:Tx×Dat)=>((bS ([]:Tx) a67.1).bind λy76=>(bS y76 [32]).bind λy78=>(xi a67.2).bind λy80=>(bS y78 y80).bind λy79=>Gr y79).bind jT).bind λy88=>mF y64 y88).bind λy87=>nh [10] y87
def ql(loom:Z02):Res Tx:=CO pX loom
@[irreducible]noncomputable def BM(Z0X:List (Tx×Int))(a10:Tx)(s11:(List Tx)):Res (List Tx):=(if(look Z0X a10).isSome then((((bS ([115,112,111,111,108,32]:Tx) a10).bind λy38=>bS y38 ([32]:Tx)).bind λy40=>((getD Z0X a10).bind λy39=>jS y39).bind λy41=>bS y40 y41).bind λy46=>eG s11 y46).bind λy45=>Gr y45 else Gr s11:Res (List Tx)).bind λs48=>Gr s48
@[irreducible]noncomputable def BN(a60:Cd)(s61:(List Tx)):Res (List Tx):=((((((bS ([116,97,98,108,101,116,32]:Tx) a60.1).bind λy82=>bS y82 ([32]:Tx)).bind λy83=>bS y83 a60.2.1).bind λy84=>bS y84 ([32]:Tx)).bind λy85=>(jS a60.2.2).bind λy86=>bS y85 y86).bind λy91=>eG s61 y91).bind λy90=>Gr y90
@[irreducible]noncomputable def CP(a96:Dat)(s97:(List Tx)):Res (List Tx):=(((((jl a96 (0:Int)).bind λy118=>fR<|oK y118).bind λy119=>bS y119 ([32]:Tx)).bind λy121=>((jl a96 (1:Int)).bind λy120=>xi y120).bind λy122=>bS y121 y122).bind λy127=>eG s97 y127).bind λy126=>Gr y126
@[irreducible]noncomputable def DW(Z0I:List Cd)(Z0s:Int)(Z0X:List (Tx×Int))(Z2E:List Dat):Res Tx:=(((jS Z0s).bind λy3=>bS ([108,111,111,109,32]:Tx) y3).bind λy4=>Gr [y4]).bind λy5=>(cg (BM Z0X) (aW ([97,98,99,100,101,102,103,104,105,106,107,108,109,110,111,112,113,114,115,116,117,118,119,120,121,122]:Tx)) y5).bind λs56=>(cg BN Z0I s56).bind λs92=>(cg CP Z2E s92).bind λs128=>nh [10] s128
def pY(Z0I:List Cd)(Z0s:Int)(Z0X:List (Tx×Int))(Z2E:List Dat):Res Tx:=DW Z0I Z0s Z0X Z2E
@[irreducible]noncomputable def DX(Z04:Int):Res Tx:=(bS ([32,33,34,35,36,38,39,40,41,42,43,44,45,46,47,48,49,50,51,52,53,54,55,56,57,58,59,60,61,62,63,64,65,66,67,68,69,70,71,72,73,74,75,76,77,78,79,80,81,82,83,84,85,86,87,88,89,90,91,92,93,94,95,96]:Tx) ([97,98,99,100,101,102,103,104,105,106,107,108,109,110,111,112,113,114,115,116,117,118,119,120,121,122,123,124,125,126,10]:Tx)).bind λy7=>iX y7<|Z04%95
def zv(Z04:Int):Res Tx:=DX Z04
@[irreducible]noncomputable def DY(zv:Int->Res Tx)(Z1N:Tx)(Z04:Int):Res Tx:=(((tV Z1N).bind λy3=>Gr<|y3+(1:Int)).bind λy4=>mj (Z04/5) y4).bind λy5=>(zv<|Z04/7).bind λy10=>if(decide<|(Z04%5)=(0:Int))then((hR Z1N none<|some y5).bind λy15=>bS y15 y10).bind λy16=>(hR Z1N (some y5) none).bind λy17=>bS y16 y17 else if(decide<|(Z04%5)=(1:Int))then(hR Z1N none<|some y5).bind λy25=>(hR Z1N (some<|y5+(1:Int)) none).bind λy26=>bS y25 y26 else if(decide<|(Z04%5)=(2:Int))then((hR Z1N none<|some y5).bind λy34=>bS y34 y10).bind λy35=>(hR Z1N (some<|y5+(1:Int)) none).bind λy36=>bS y35 y36 else if(decide<|(Z04%5)=(3:Int))then((hR Z1N none<|some y5).bind λy44=>(hR Z1N (some y5)<|some<|y5+(1:Int)).bind λy45=>bS y44 y45).bind λy46=>(hR Z1N (some y5) none).bind λy47=>bS y46 y47 else((hR Z1N (some<|y5+(1:Int))<|some<|y5+(2:Int)).bind λy55=>(hR Z1N (some y5)<|some<|y5+(1:Int)).bind λy56=>bS y55 y56).bind λy57=>((hR Z1N none<|some y5).bind λy60=>bS y60 y57).bind λy61=>(hR Z1N (some<|y5+(2:Int)) none).bind λy62=>bS y61 y62
def zw(Z1N:Tx)(Z04:Int):Res Tx:=DY zv Z1N Z04
@[irreducible]noncomputable def DZ(lX:Int->Int->Int->Res (List Int))(Z04:Int)(Z1W:Int):Res Tx:=if(decide<|(Z04%7)=(3:Int))then(iX ([102,98,105]:Tx)<|(Z04/7)%3).bind λy3=>yL y3 Z1W else((lX (Z04/7) Z1W (3:Int)).bind λy18=>bB y18<|λ(a9:Int)=>iX ([102,98,105]:Tx) a9).bind λy19=>vU y19
def zx(Z04:Int)(Z1W:Int):Res Tx:=DZ lX Z04 Z1W
@[irreducible]noncomputable def E3(zw:Tx->Int->Res Tx)(zx:Int->Int->Res Tx)(Z04:Int)(Z1g:Int):Res Tx:=if(decide<|(Z04%9)=(8:Int))then(hR ([102,98,105,98,102,98,105,102]:Tx) none<|some Z1g).bind λy3=>zw y3 (Z04/9)else if(decide<|(Z04%9)=(7:Int))then(iX ([102,98,105]:Tx)<|(Z04/9)%3).bind λy11=>yL y11 Z1g else zx (Z04/9) Z1g
def zy(Z04:Int)(Z1g:Int):Res Tx:=E3 zw zx Z04 Z1g
@[irreducible]noncomputable def E6(zy:Int->Int->Res Tx)(Z04:Int)(Z1g:Int):Res Dat:=if(decide<|(Z04%7)<(3:Int))then((zy (Z04/7) Z1g).bind λy3=>Gr (([114,111,119]:Tx),y3)).bind λy4=>Gr (Je [HM y4.1,HM y4.2])else if(decide<|(Z04%7)=(3:Int))then(mj (Z04/7) Z1g).bind λy14=>(if(decide<|((Z04/7)%11)=(4:Int))then(gS [Z1g,((0:Int)-(1:Int)),(100000000000000000000:Int)]<|(Z04/77)%3).bind λy25=>Gr y25 else Gr y14:Res Int).bind λs29=>Gr (Je [HM (([102,108,105,112]:Tx),s29).1,PQ (([102,108,105,112]:Tx),s29).2])else if(decide<|(Z04%7)=(6:Int))then Gr (Je [HM (([114,101,100,111]:Tx),(0:Int)).1,PQ (([114,101,100,111]:Tx),(0:Int)).2])else Gr (Je [HM (([117,110,100,111]:Tx),(0:Int)).1,PQ (([117,110,100,111]:Tx),(0:Int)).2])
def uE(Z04:Int)(Z1g:Int):Res Dat:=E6 zy Z04 Z1g
@[irreducible]noncomputable def E7(Z0B:Cd):Res Cd:=((yM ([83,90]:Tx) Z0B.1).bind λy5=>iX ([90,83]:Tx) y5).bind λy12=>((((iX Z0B.2.1 (0:Int)).bind λy6=>(iX Z0B.2.1 (3:Int)).bind λy7=>bS y6 y7).bind λy8=>(iX Z0B.2.1 (2:Int)).bind λy9=>bS y8 y9).bind λy10=>(iX Z0B.2.1 (1:Int)).bind λy11=>bS y10 y11).bind λy13=>Gr (y12,y13,(((0:Int)-Z0B.2.2)%4))
def xm(Z0B:Cd):Res Cd:=E7 Z0B
@[irreducible]noncomputable def E8(Z1X:Tx):Res Int:=(yM ([98,105,102]:Tx) Z1X).bind λy1=>Gr<|y1-(1:Int)
def qm(Z1X:Tx):Res Int:=E8 Z1X
@[irreducible]noncomputable def E9(qm:Tx->Res Int)(Z0B:Cd)(Z1X:Tx):Res Int:=if(decide<|Z0B.1=([83]:Tx))then qm Z1X else(qm Z1X).bind λy8=>Gr<|(0:Int)-y8
def nv(Z0B:Cd)(Z1X:Tx):Res Int:=E9 qm Z0B Z1X
@[irreducible]noncomputable def Ea(qm:Tx->Res Int)(Z0B:Cd)(Z1X:Tx):Res Cd:=(((qm Z1X).bind λy1=>Gr<|Z0B.2.2+y1).bind λy2=>Gr<|y2%4).bind λy3=>Gr (Z0B.1,Z0B.2.1,y3)
def yg(Z0B:Cd)(Z1X:Tx):Res Cd:=Ea qm Z0B Z1X
@[irreducible]noncomputable def CQ(a86:Cd×Tx)(a116:Tx)(s117:cV):Res cV:=(gr s117 a116 ((cf s117 a116 (0:Int)-(2:Int))+(if(decide<|a86.2=([105]:Tx))then(1:Int)else 0))).bind λy141=>Gr y141
@[irreducible]noncomputable def BO(a86:Cd×Tx)(s87:cV):Res cV:=(cg (CQ a86) (aW a86.1.2.1) s87).bind λs142=>Gr s142
@[irreducible]noncomputable def Eb(nv:Cd->Tx->Res Int)(yg:Cd->Tx->Res Cd)(Z0J:(List Cd)×(List Int)×(List Int)×cV)(Z0K:Tx)(Z0s:Int):Res (Tx ⊕ ef):=(((tV Z0K).bind λy13=>Gr<|!decide (y13=(Z0J.1.length:Int))).bind λy35=>if y35 then Gr true else((iO (aW Z0K) (λ(a14:Tx)=>((Cf a14 ([102,98,105]:Tx)).bind λc=>Gr<|!c).bind λy24=>if y24 then Gr (some a14)else Gr none)).bind λy33=>Gr (y33.length:Int)).bind λy34=>Gr<|decide<|(0:Int)<y34).bind λy36=>if y36 then Gr (Jf ([66,97,100,82,111,119]:Tx):Tx ⊕ ef)else(bB (Z0J.2.1.zip<|Z0J.1.zip<|aW Z0K)<|λ(a45:Int×Cd×Tx)=>(nv a45.2.1 a45.2.2).bind λy56=>Gr<|a45.1+y56).bind λy59=>(((bB y59<|λ(a62:Int)=>Gr<|en a62).bind λy71=>yN y71).bind λy72=>Gr<|decide<|Z0s<y72).bind λy73=>if y73 then Gr (Jf ([84,111,111,84,105,103,104,116]:Tx):Tx ⊕ ef)else(cg BO (Z0J.1.zip<|aW Z0K) Z0J.2.2.2).bind λs146=>(((bB (s146.map (·.1))<|λ(a154:Tx)=>getD s146 a154).bind λy164=>xg y164).bind λy165=>Gr<|decide<|y165<(0:Int)).bind λy166=>if y166 then Gr (Jf ([83,112,111,111,108,68,114,121]:Tx):Tx ⊕ ef)else(bB (Z0J.2.2.1.zip y59) (λ(a175:Ii)=>Gr (if en a175.2>a175.1 then en a175.2 else a175.1))).bind λy186=>((bB (Z0J.1.zip<|aW Z0K)<|λ(a189:Cd×Tx)=>yg a189.1 a189.2).bind λy200=>Gr (y200,y59,y186,s146)).bind λy201=>Gr (GU y201:Tx ⊕ ef)
def sG(Z0J:(List Cd)×(List Int)×(List Int)×cV)(Z0K:Tx)(Z0s:Int):Res (Tx ⊕ ef):=Eb nv yg Z0J Z0K Z0s
@[irreducible]noncomputable def CS(nv:Cd->Tx->Res Int)(a7:Cd×Tx)(s8:(List Pl)):Res (List Pl):=(((nv a7.1 a7.2).bind λy39=>Gr<|y39+(1:Int)).bind λy40=>iX ([122,111,115]:Tx) y40).bind λy41=>(((iX a7.1.2.1 a7.1.2.2).bind λy44=>(iX a7.1.2.1<|(a7.1.2.2+(2:Int))%4).bind λy45=>Gr (y44,y45,y41)).bind λy50=>eG s8 y50).bind λy49=>Gr y49
@[irreducible]noncomputable def Ec(nv:Cd->Tx->Res Int)(Z4Q:List Cd)(Z0K:Tx):Res (List Pl):=(cg (CS nv) (Z4Q.zip<|aW Z0K) ([]:List Pl)).bind λs51=>Gr s51
def mH(Z4Q:List Cd)(Z0K:Tx):Res (List Pl):=Ec nv Z4Q Z0K
@[irreducible]noncomputable def Ah(xm:Cd->Res Cd)(sG:ef->Tx->Int->Res (Tx ⊕ ef))(mH:(List Cd)->Tx->Res (List Pl))(Z0M:List (ef×Dat))(Z0S:List (ef×Dat))(Z0v:Dat)(Z0s:Int):Res (((List<|ef×Dat)×(List<|ef×Dat))×Dat):=((gS Z0M<|-(1:Int)).bind λy3=>Gr y3.1).bind λy4=>(((jl Z0v (0:Int)).bind λy7=>fR<|oK y7).bind λy8=>Gr<|decide<|y8=([117,110,100,111]:Tx)).bind λy9=>if y9 then if(decide<|(Z0M.length:Int)=(1:Int))then Gr ((Z0M,Z0S),(λ(z:Tx×(List Tx))=>Je [HM z.1,KO<|z.2.map λ(z:Tx)=>HM z]) (([114,101,102,117,115,101,100]:Tx),[([78,111,116,104,105,110,103,76,101,102,116]:Tx)]))else((kI Z0M).bind λb=>(eG Z0S b.1).bind λc=>Gr (c,b.2)).bind λy14=>((((gS y14.1<|-(1:Int)).bind λy17=>Gr y17.2).bind λy18=>Gr (([116,111,108,100]:Tx),y18)).bind λy19=>Gr<|Je [HM y19.1,y19.2]).bind λy20=>Gr ((y14.2,y14.1),y20)else(((jl Z0v (0:Int)).bind λy21=>fR<|oK y21).bind λy22=>Gr<|decide<|y22=([114,101,100,111]:Tx)).bind λy23=>if y23 then if Z0S.isEmpty then Gr ((Z0M,Z0S),(λ(z:Tx×(List Tx))=>Je [HM z.1,KO<|z.2.map λ(z:Tx)=>HM z]) (([114,101,102,117,115,101,100]:Tx),[([78,111,116,104,105,110,103,76,101,102,116]:Tx)]))else((kI Z0S).bind λb=>(eG Z0M b.1).bind λc=>Gr (c,b.2)).bind λy28=>((((gS y28.1<|-(1:Int)).bind λy31=>Gr y31.2).bind λy32=>Gr (([116,111,108,100]:Tx),y32)).bind λy33=>Gr<|Je [HM y33.1,y33.2]).bind λy34=>Gr ((y28.1,y28.2),y34)else(((jl Z0v (0:Int)).bind λy35=>fR<|oK y35).bind λy36=>Gr<|decide<|y36=([102,108,105,112]:Tx)).bind λy37=>if y37 then((((jl Z0v (1:Int)).bind λy40=>fR<|BF y40).bind λy41=>Gr<|decide<|y41<(0:Int)).bind λy44=>if y44 then Gr true else((jl Z0v (1:Int)).bind λy42=>fR<|BF y42).bind λy43=>Gr<|decide<|(y4.1.length:Int)<=y43).bind λy45=>if y45 then Gr ((Z0M,Z0S),(λ(z:Tx×(List Tx))=>Je [HM z.1,KO<|z.2.map λ(z:Tx)=>HM z]) (([114,101,102,117,115,101,100]:Tx),[([78,111,84,97,98,108,101,116]:Tx)]))else(((((jl Z0v (1:Int)).bind λy51=>fR<|BF y51).bind λy52=>gS y4.1 y52).bind λy53=>xm y53).bind λy55=>((jl Z0v (1:Int)).bind λy54=>fR<|BF y54).bind λy56=>mn y4.1 y56 y55).bind λy57=>(eG Z0M ((y57,y4.2.1,y4.2.2.1,y4.2.2.2),Z0v)).bind λy64=>(Gr<|(Z0S,λ(b:List (ef×Dat))=>b).2 []).bind λy67=>Gr ((y64,y67),(λ(z:Tx×(Option Unit))=>Je [HM z.1,B3 (λ(z:Unit)=>O8) z.2]) (([116,111,108,100]:Tx),none))else(((jl Z0v (1:Int)).bind λy72=>fR<|oK y72).bind λy73=>sG y4 y73 Z0s).bind λy74=>if(y74).isLeft then((((fR (y74).getLeft?).bind λy79=>Gr [y79]).bind λy80=>Gr (([114,101,102,117,115,101,100]:Tx),y80)).bind λy81=>Gr<|(λ(z:Tx×(List Tx))=>Je [HM z.1,KO<|z.2.map λ(z:Tx)=>HM z]) y81).bind λy82=>Gr ((Z0M,Z0S),y82)else(((fR (y74).getRight?).bind λy83=>Gr (y83,Z0v)).bind λy84=>eG Z0M y84).bind λy85=>(Gr<|(Z0S,λ(b:List (ef×Dat))=>b).2 []).bind λy88=>(((((fR (y74).getRight?).bind λy91=>Gr y91.1).bind λy93=>((jl Z0v (1:Int)).bind λy92=>fR<|oK y92).bind λy94=>mH y93 y94).bind λy95=>Gr (([116,111,108,100]:Tx),y95)).bind λy96=>Gr<|(λ(z:Tx×(List Pl))=>Je [HM z.1,KO<|z.2.map λ(z:Pl)=>Je [HM z.1,HM z.2.1,HM z.2.2]]) y96).bind λy97=>Gr ((y85,y88),y97)
def ny(Z0M:List (ef×Dat))(Z0S:List (ef×Dat))(Z0v:Dat)(Z0s:Int):Res (((List<|ef×Dat)×(List<|ef×Dat))×Dat):=Ah xm sG mH Z0M Z0S Z0v Z0s
@[irreducible]noncomputable def CT(self:Z02):Res eW:=if(!self.2.2.1.isEmpty)then gS self.2.2.1 (-(1:Int))else Gr self.2.1
def fT(self:Z02):Res eW:=CT self
@[irreducible]noncomputable def Ed(text:Tx)(width:Int):Res Bool:=((tV text).bind λy1=>Gr<|decide<|y1=width).bind λy12=>if y12 then(bB (aW text)<|λ(a2:Tx)=>Cf a2 ([102,98,105]:Tx)).bind λy11=>Gr (y11.all id)else Gr false
def yh(text:Tx)(width:Int):Res Bool:=Ed text width
@[irreducible]noncomputable def Ee(tablet:Cd)(turn:Tx):Res Int:=(getD ([([102],1),([98],(-1)),([105],0)]:List (Tx×Int)) turn).bind λy3=>if(decide<|tablet.1=([83]:Tx))then Gr y3 else Gr (-y3)
def pZ(tablet:Cd)(turn:Tx):Res Int:=Ee tablet turn
@[irreducible]noncomputable def CU(a7:Cd×Tx)(a37:Tx)(s38:cV):Res cV:=(((if(decide<|a7.2=([105]:Tx))then Gr (1:Int)else Gr (2:Int)).bind λy59=>Gr<|cf s38 a37 (0:Int)+y59).bind λy63=>gr s38 a37 y63).bind λy64=>Gr y64
@[irreducible]noncomputable def CV(a7:Cd×Tx)(s8:cV):Res cV:=(cg (CU a7) (aW a7.1.2.1) s8).bind λs65=>Gr s65
@[irreducible]noncomputable def Ef(draft:List Cd)(row:Tx):Res cV:=(cg CV (draft.zip<|aW row) ([]:List (Tx×Int))).bind λs69=>Gr s69
def xo(draft:List Cd)(row:Tx):Res cV:=Ef draft row
@[irreducible]noncomputable def uF(a7:Tx×Int)(s8:cV):Res cV:=if(decide<|cf s8 a7.1 (0:Int)<a7.2)then(((bS ([]:Tx) [116,104,101,32,115,112,111,111,108,32,111,102,32]).bind λy38=>(bS y38 a7.1).bind λy39=>(bS y39 [32,102,97,108,108,115,32,115,104,111,114,116]).bind λy41=>Gr y41).bind jT).bind λy42=>MT 6 else((getD s8 a7.1).bind λa47=>gr s8 a7.1<|a47-a7.2).bind λy46=>Gr y46
@[irreducible]noncomputable def Eg(spools:List (Tx×Int))(lengths:List (Tx×Int)):Res cV:=(cg uF lengths spools).bind λs48=>Gr s48
def yi(spools:List (Tx×Int))(lengths:List (Tx×Int)):Res cV:=Eg spools lengths
@[irreducible]noncomputable def Eh(tablet:Cd)(turn:Tx):Res Cd:=(((getD ([([102],1),([98],(-1)),([105],0)]:List (Tx×Int)) turn).bind λy11=>Gr<|tablet.2.2+y11).bind λy12=>Gr<|y12%4).bind λy13=>Gr (tablet.1,tablet.2.1,y13)
def xp(tablet:Cd)(turn:Tx):Res Cd:=Eh tablet turn
@[irreducible]noncomputable def sH(tablet:Cd):Res Tx:=iX tablet.2.1<|tablet.2.2%4
def jz(tablet:Cd):Res Tx:=sH tablet
@[irreducible]noncomputable def Ei(tablet:Cd):Res Tx:=iX tablet.2.1<|(tablet.2.2+(2:Int))%4
def zA(tablet:Cd):Res Tx:=Ei tablet
@[irreducible]noncomputable def Ej(jz:Cd->Res Tx)(zA:Cd->Res Tx)(pZ:Cd->Tx->Res Int)(tablet:Cd)(turn:Tx):Res Pl:=(jz tablet).bind λy2=>(zA tablet).bind λy3=>((pZ tablet turn).bind λy1=>getD ([(1,[115]),((-1),[122]),(0,[111])]:List (Int×Tx)) y1).bind λy4=>Gr (y2,y3,y4)
def yj(tablet:Cd)(turn:Tx):Res Pl:=Ej jz zA pZ tablet turn
@[irreducible]noncomputable def Ek(yh:Tx->Int->Res Bool)(pZ:Cd->Tx->Res Int)(yi:cV->cV->Res cV)(xo:(List Cd)->Tx->Res cV)(xp:Cd->Tx->Res Cd)(yj:Cd->Tx->Res Pl)(stage:eW)(row:Tx)(most:Int):Res eW:=((yh row (stage.2.1.length:Int)).bind λy1=>Gr<|!y1).bind λy2=>if y2 then MT 1 else(bB (stage.2.2.1.zip<|stage.2.1.zip<|aW row)<|λ(a7:Int×Cd×Tx)=>(pZ a7.2.1 a7.2.2).bind λy18=>Gr<|a7.1+y18).bind λy21=>((bB y21<|λ(a24:Int)=>Gr<|decide<|most<en a24).bind λy33=>Gr<|y33.any id).bind λy34=>if y34 then MT 5 else((xo stage.2.1 row).bind λy39=>yi stage.2.2.2.2.1 y39).bind λy40=>(bB (stage.2.2.2.1.zip y21) (λ(a45:Ii)=>Gr (if en a45.2>a45.1 then en a45.2 else a45.1))).bind λy56=>(bB (stage.2.1.zip<|aW row)<|λ(a61:Cd×Tx)=>xp a61.1 a61.2).bind λy72=>(bB (y72.zip<|aW row)<|λ(a77:Cd×Tx)=>yj a77.1 a77.2).bind λy88=>Gr (Je [HM (([114,111,119]:Tx),row).1,HM (([114,111,119]:Tx),row).2],(y72,(y21,(y56,(y40,some y88)))))
def sI(stage:eW)(row:Tx)(most:Int):Res eW:=Ek yh pZ yi xo xp yj stage row most
@[irreducible]noncomputable def CY(self:Z02)(stages:List eW):Res (Z02×Unit):=if(!stages.isEmpty)then((mF self.2.2.1 stages).bind λb=>Gr<|(self.1,self.2.1,b,self.2.2.2)).bind λy3=>Gr ((y3.1,y3.2.1,y3.2.2.1,([]:List eW)),())else Gr (self,())
def oA(self:Z02)(stages:List eW):Res (Z02×Unit):=CY self stages
@[irreducible]noncomputable def CZ(sI:eW->Tx->Int->Res eW)(fT:Z02->Res eW)(oA:Z02->(List eW)->Res (Z02×Unit))(self:Z02)(row:Tx):Res (Z02×(List Pl)):=((fT self).bind λy3=>sI y3 row self.1).bind λy4=>(oA self [y4]).bind λy9=>(fR y4.2.2.2.2.2).bind λy10=>Gr (y9.1,y10)
def xq(self:Z02)(row:Tx):Res (Z02×(List Pl)):=CZ sI fT oA self row
@[irreducible]noncomputable def D0(draft:List Cd)(k:Int):Res Unit:=(if(decide<|k<(0:Int))then Gr true else Gr (decide<|(draft.length:Int)<=k)).bind λy1=>if y1 then(((bS ([]:Tx) [116,104,101,114,101,32,105,115,32,110,111,32,116,97,98,108,101,116,32]).bind λy4=>(jS k).bind λy6=>(bS y4 y6).bind λy5=>Gr y5).bind jT).bind λy7=>MT 7 else Gr ()
def xr(draft:List Cd)(k:Int):Res Unit:=D0 draft k
@[irreducible]noncomputable def El(tablet:Cd):Res Cd:=((((iX tablet.2.1 (0:Int)).bind λy13=>(iX tablet.2.1 (3:Int)).bind λy14=>bS y13 y14).bind λy15=>(iX tablet.2.1 (2:Int)).bind λy16=>bS y15 y16).bind λy17=>(iX tablet.2.1 (1:Int)).bind λy18=>bS y17 y18).bind λy19=>(getD ([([83],[90]),([90],[83])]:List (Tx×Tx)) tablet.1).bind λy22=>Gr (y22,y19,(((4:Int)-tablet.2.2)%4))
def zB(tablet:Cd):Res Cd:=El tablet
@[irreducible]noncomputable def Em(xr:(List Cd)->Int->Res Unit)(zB:Cd->Res Cd)(stage:eW)(k:Int):Res eW:=(xr stage.2.1 k).bind λy1=>(((gS stage.2.1 k).bind λy12=>zB y12).bind λy16=>mn stage.2.1 k y16).bind λy17=>Gr (Je [HM (([102,108,105,112]:Tx),k).1,PQ (([102,108,105,112]:Tx),k).2],(y17,(stage.2.2.1,(stage.2.2.2.1,(stage.2.2.2.2.1,(none:Option (List Pl)))))))
def va(stage:eW)(k:Int):Res eW:=Em xr zB stage k
@[irreducible]noncomputable def D4(oA:Z02->(List eW)->Res (Z02×Unit))(va:eW->Int->Res eW)(fT:Z02->Res eW)(self:Z02)(k:Int):Res (Z02×Unit):=(((((fT self).bind λy1=>va y1 k).bind λy2=>Gr [y2]).bind λy6=>Gr (y6,())).bind λa7=>oA self a7.1).bind λy5=>Gr (y5.1,())
def xt(self:Z02)(k:Int):Res (Z02×Unit):=D4 oA va fT self k
@[irreducible]noncomputable def D5(self:Z02):Res (Z02×Dat):=if(!(!self.2.2.1.isEmpty))then MT 8 else((kI self.2.2.1).bind λb=>Gr ((self.1,self.2.1,b.2,self.2.2.2),b.1)).bind λy3=>((eG y3.1.2.2.2 y3.2).bind λb=>Gr<|(y3.1.1,y3.1.2.1,y3.1.2.2.1,b)).bind λy8=>Gr (y8,y3.2.1)
def yk(self:Z02):Res (Z02×Dat):=D5 self
@[irreducible]noncomputable def D6(self:Z02):Res (Z02×Dat):=if(!(!self.2.2.2.isEmpty))then MT 8 else((kI self.2.2.2).bind λb=>Gr ((self.1,self.2.1,self.2.2.1,b.2),b.1)).bind λy3=>((eG y3.1.2.2.1 y3.2).bind λb=>Gr<|(y3.1.1,y3.1.2.1,b,y3.1.2.2.2)).bind λy8=>Gr (y8,y3.2.1)
def yl(self:Z02):Res (Z02×Dat):=D6 self
@[irreducible]noncomputable def Ai(xq:Z02->Tx->Res (Z02×(List Pl)))(xt:Z02->Int->Res (Z02×Unit))(yk:Z02->Res (Z02×Dat))(yl:Z02->Res (Z02×Dat))(Z15:Z02)(Z0v:Dat):Res (Z02×Dat):=(LF ((((jl Z0v (0:Int)).bind λy9=>fR<|oK y9).bind λy10=>Gr<|decide<|y10=([114,111,119]:Tx)).bind λy11=>(if y11 then(((jl Z0v (1:Int)).bind λy16=>fR<|oK y16).bind λy18=>Gr (y18,())).bind λa19=>(xq Z15 a19.1).bind λr17=>Gr (r17.1,(λ(z:List Pl)=>KO<|z.map λ(z:Pl)=>Je [HM z.1,HM z.2.1,HM z.2.2]) r17.2)else(((jl Z0v (0:Int)).bind λy20=>fR<|oK y20).bind λy21=>Gr<|decide<|y21=([102,108,105,112]:Tx)).bind λy22=>(if y22 then(((jl Z0v (1:Int)).bind λy27=>fR<|BF y27).bind λy29=>Gr (y29,())).bind λa30=>(xt Z15 a30.1).bind λr28=>Gr (r28.1,O8)else(((jl Z0v (0:Int)).bind λy31=>fR<|oK y31).bind λy32=>Gr<|decide<|y32=([117,110,100,111]:Tx)).bind λy33=>(if y33 then(yk Z15).bind λr38=>Gr (r38.1,r38.2)else(yl Z15).bind λr39=>Gr (r39.1,r39.2):Res (Z02×Dat)):Res (Z02×Dat)):Res (Z02×Dat)))).bind λr5=>match r5 with| .inr j7=>Gr (Z15,mr [114,101,102,117,115,101,100] j7)| .inl y6=>Gr (y6.1,Je [HM (([116,111,108,100]:Tx),y6.2).1,(([116,111,108,100]:Tx),y6.2).2])
def nz(Z15:Z02)(Z0v:Dat):Res (Z02×Dat):=Ai xq xt yk yl Z15 Z0v
@[irreducible]noncomputable def D7(mH:(List Cd)->Tx->Res (List Pl))(Z0M:List (ef×Dat)):Res (List<|List Pl):=iO Z0M (λ(a1:ef×Dat)=>(((jl a1.2 (0:Int)).bind λy12=>fR<|oK y12).bind λy13=>Gr<|decide<|y13=([114,111,119]:Tx)).bind λy16=>if y16 then(((jl a1.2 (1:Int)).bind λy8=>fR<|oK y8).bind λy9=>mH a1.1.1 y9).bind λy15=>Gr (some y15)else Gr none)
def zC(Z0M:List (ef×Dat)):Res (List<|List Pl):=D7 mH Z0M
@[irreducible]noncomputable def D8(fT:Z02->Res eW)(self:Z02):Res (List Cd):=(fT self).bind λy1=>Gr y1.2.1
def ym(self:Z02):Res (List Cd):=D8 fT self
@[irreducible]noncomputable def D9(self:Z02):Res (List<|List Pl):=iO self.2.2.1 (λ(a1:eW)=>if a1.2.2.2.2.2.isSome then(fR a1.2.2.2.2.2).bind λy11=>Gr (some y11)else Gr none)
def yn(self:Z02):Res (List<|List Pl):=D9 self
@[irreducible]noncomputable def Dc(fT:Z02->Res eW)(self:Z02)(k:Int):Res Int:=((fT self).bind λy1=>Gr y1.2.2.1).bind λy2=>gS y2 k
def sJ(self:Z02)(k:Int):Res Int:=Dc fT self k
@[irreducible]noncomputable def Dd(fT:Z02->Res eW)(self:Z02)(k:Int):Res Int:=((fT self).bind λy1=>Gr y1.2.2.2.1).bind λy2=>gS y2 k
def sL(self:Z02)(k:Int):Res Int:=Dd fT self k
@[irreducible]noncomputable def De(fT:Z02->Res eW)(self:Z02)(colour:Tx):Res Int:=((fT self).bind λy1=>Gr y1.2.2.2.2.1).bind λy2=>Gr<|cf y2 colour (0:Int)
def qZ(self:Z02)(colour:Tx):Res Int:=De fT self colour
@[irreducible]noncomputable def Df(sJ:Z02->Int->Res Int)(sL:Z02->Int->Res Int)(Z15:Z02)(Z0J:(List Cd)×(List Int)×(List Int)×cV)(a23:Int)(s24:Unit):Res (Fl Bool Unit):=((((sJ Z15 a23).bind λy44=>(gS Z0J.2.1 a23).bind λy45=>A8 y44 y45).bind λy46=>Gr<|!y46).bind λy50=>if y50 then Gr true else((sL Z15 a23).bind λy47=>(gS Z0J.2.2.1 a23).bind λy48=>A8 y47 y48).bind λy49=>Gr<|!y49).bind λy51=>if y51 then Gr (.rt false)else Gr (.nx ())
@[irreducible]noncomputable def BP(qZ:Z02->Tx->Res Int)(Z15:Z02)(Z0J:(List Cd)×(List Int)×(List Int)×cV)(a63:Tx)(s64:Unit):Res (Fl Bool Unit):=(((qZ Z15 a63).bind λy84=>A8 y84<|cf Z0J.2.2.2 a63 (0:Int)).bind λy85=>Gr<|!y85).bind λy86=>if y86 then Gr (.rt false)else Gr (.nx ())
@[irreducible]noncomputable def Dg(ym:Z02->Res (List Cd))(yn:Z02->Res (List<|List Pl))(pX:Z02->Res (List Dat))(sJ:Z02->Int->Res Int)(sL:Z02->Int->Res Int)(qZ:Z02->Tx->Res Int)(Z15:Z02)(Z0J:(List Cd)×(List Int)×(List Int)×cV)(Z4m:List (List Pl))(Z2E:List Dat):Res Bool:=((((ym Z15).bind λy1=>A8 y1 Z0J.1).bind λy2=>Gr<|!y2).bind λy5=>if y5 then Gr true else((yn Z15).bind λy3=>A8 y3 Z4m).bind λy4=>Gr<|!y4).bind λy6=>if y6 then Gr false else((((pX Z15).bind λy13=>Gr<|(λ(z:List Dat)=>KO<|z.map λ(z:Dat)=>z) y13).bind λy14=>wt y14<|(λ(z:List Dat)=>KO<|z.map λ(z:Dat)=>z) Z2E).bind λy15=>Gr<|!y15).bind λy16=>if y16 then Gr false else((jf Z0J.1).bind λy58=>iN (Df sJ sL Z15 Z0J) y58 ()).bind (λ| .nx s59=>((iN (BP qZ Z15 Z0J) (aW ([97,98,99,100,101,102,103,104,105,106,107,108,109,110,111,112,113,114,115,116,117,118,119,120,121,122]:Tx)) ()).bind (λ| .nx s93=>(Gr true)| .rt r=>Gr r| .bk _=>Ph))| .rt r=>Gr r| .bk _=>Ph)
def yo(Z15:Z02)(Z0J:(List Cd)×(List Int)×(List Int)×cV)(Z4m:List (List Pl))(Z2E:List Dat):Res Bool:=Dg ym yn pX sJ sL qZ Z15 Z0J Z4m Z2E
@[irreducible]noncomputable def i7(ql:Z02->Res Tx)(pY:(List Cd)->Int->cV->(List Dat)->Res Tx)(iI:List Int->Int->Res Int)(uE:Int->Int->Res Dat)(ny:(List<|ef×Dat)->(List<|ef×Dat)->Dat->Int->Res (((List<|ef×Dat)×(List<|ef×Dat))×Dat))(nz:Z02->Dat->Res (Z02×Dat))(Z0A:List Int)(y1:(List Cd)×Int×cV)(a46:Int)(s47:(Z02×(List<|ef×Dat)×(List<|ef×Dat))):Res (Fl Bool<|Z02×(List<|ef×Dat)×(List<|ef×Dat)):=((iI Z0A<|(10:Int)+a46).bind λy73=>uE y73 (y1.1.length:Int)).bind λy74=>(ny s47.2.1 s47.2.2 y74 y1.2.1).bind λy77=>(((Gr y74).bind λa=>(Gr ()).bind λb=>Gr (a,b)).bind λa=>(nz s47.1 a.1).bind λy=>(Gr y77.2).bind λb=>(wt y.2 b).bind λc=>Gr (y.1,c)).bind λy85=>if y85.2 then(bB (cut y77.1.1 (some (1:Int)) none)<|λ(a91:ef×Dat)=>Gr a91.2).bind λy100=>(pY y1.1 y1.2.1 y1.2.2 y100).bind λy105=>(if(decide<|(a46%4)=(1:Int))then((ql y85.1).bind λy108=>n6 y108 y105).bind λy109=>Gr (!y109)else Gr false).bind λy110=>if y110 then Gr (.rt false)else Gr (.nx (y85.1,y77.1.1,y77.1.2))else Gr (.rt false)
@[irreducible]noncomputable def sM(zr:List Int->Res ((List Cd)×Int×cV))(yf:(List Cd)->Int->cV->Res Z02)(zu:(List Cd)->cV->Res ef)(ql:Z02->Res Tx)(pY:(List Cd)->Int->cV->(List Dat)->Res Tx)(iI:List Int->Int->Res Int)(uE:Int->Int->Res Dat)(ny:(List<|ef×Dat)->(List<|ef×Dat)->Dat->Int->Res (((List<|ef×Dat)×(List<|ef×Dat))×Dat))(nz:Z02->Dat->Res (Z02×Dat))(yo:Z02->ef->(List<|List Pl)->(List Dat)->Res Bool)(zC:(List<|ef×Dat)->Res (List<|List Pl))(Z0A:List Int):Res Bool:=(zr Z0A).bind λy1=>(yf ((y1.1,y1.2.2).1) y1.2.1<|(y1.1,y1.2.2).2).bind λy15=>(((zu y1.1 y1.2.2).bind λy19=>Gr (y19,Je [HM (([98,101,103,105,110]:Tx),(0:Int)).1,PQ (([98,101,103,105,110]:Tx),(0:Int)).2])).bind λy20=>Gr [y20]).bind λy21=>(((ql y15).bind λy28=>(pY y1.1 y1.2.1 y1.2.2 ([]:List Dat)).bind λy29=>n6 y28 y29).bind λy30=>Gr<|!y30).bind λy31=>if y31 then Gr false else((eG (((y1.1,y1.2.2),λ(b:(List Cd)×cV)=>b).1.1,λb=>((y1.1,y1.2.2),λ(b:(List Cd)×cV)=>b).2 (b,((y1.1,y1.2.2),λ(b:(List Cd)×cV)=>b).1.2)).1 (([83]:Tx),([113,113,113,113]:Tx),(1:Int))).bind λb=>Gr<|(((y1.1,y1.2.2),λ(b:(List Cd)×cV)=>b).1.1,λb=>((y1.1,y1.2.2),λ(b:(List Cd)×cV)=>b).2 (b,((y1.1,y1.2.2),λ(b:(List Cd)×cV)=>b).1.2)).2 b).bind λy38=>(Gr<|((y38,λ(b:(List Cd)×cV)=>b).1.2,λb=>(y38,λ(b:(List Cd)×cV)=>b).2 ((y38,λ(b:(List Cd)×cV)=>b).1.1,b)).2 []).bind λy41=>((((iI Z0A (9:Int)).bind λy44=>Gr<|y44%51).bind λy45=>hU y45).bind λy121=>iN (i7 ql pY iI uE ny nz Z0A y1) y121 (y15,y21,([]:List (ef×Dat)))).bind (λ| .nx s122=>((bB (cut s122.2.1 (some (1:Int)) none)<|λ(a128:ef×Dat)=>Gr a128.2).bind λy137=>(((ql s122.1).bind λy140=>(pY y1.1 y1.2.1 y1.2.2 y137).bind λy141=>n6 y140 y141).bind λy142=>Gr<|!y142).bind λy143=>if y143 then Gr false else((((gS s122.2.1<|-(1:Int)).bind λy150=>Gr y150.1).bind λy152=>((zC s122.2.1).bind λy151=>Gr (y151,(y137,()))).bind λy153=>Gr (y152,y153)).bind λy154=>Gr (s122.1,y154)).bind λa155=>yo a155.1 a155.2.1 a155.2.2.1 a155.2.2.2.1)| .rt r=>Gr r| .bk _=>Ph)
def xu(Z0A:List Int):Res Bool:=sM zr yf zu ql pY iI uE ny nz yo zC Z0A
end
end Mi
namespace Wb
open PySem L2 Mi
def tp(i:Nat):Stmt:=Mm.main.body.getD i<|.Pass ⟨0,0,0,0⟩
def tq(i j:Nat):Stmt:=match tp i with
 | .ClassDef _ _ _ b _ _ _ _ _ _ _=>b.getD j<|.Pass ⟨0,0,0,0⟩
 |s=>s
abbrev kW:=isDk (λ(a:Tx)=>GU<|sOf a) isI
abbrev j6(K:Gp)(Z00:Addr):Rfl eW:=(fC "deed" (isU K)<|fC "standing" (isL<|isT3 K isS isS isI)<|fC "reached" (isL isI)<|fC "highest" (isL isI)<|fC "lengths" kW<|f1 "pick"<|isO<|isL<|isT3 K isS isS isS)
abbrev aS(K:Gp)(Z00:Addr):Rp eW:=isOb Z00<|j6 K Z00
theorem i8{K:Gp}{a0:Addr}:x8 (j6 K a0) "deed" (isU K) (λa=>a.1):=x9
theorem bU{K:Gp}{a0:Addr}:x8 (j6 K a0) "standing" (isL<|isT3 K isS isS isI) (λa=>a.2.1):=(j4 x9)
theorem fN{K:Gp}{a0:Addr}:x8 (j6 K a0) "reached" (isL isI) (λa=>a.2.2.1):=(j4<|j4 x9)
theorem fO{K:Gp}{a0:Addr}:x8 (j6 K a0) "highest" (isL isI) (λa=>a.2.2.2.1):=(j4<|j4<|j4 x9)
theorem eX{K:Gp}{a0:Addr}:x8 (j6 K a0) "lengths" kW (λa=>a.2.2.2.2.1):=(j4<|j4<|j4<|j4 x9)
theorem i9{K:Gp}{a0:Addr}:x8 (j6 K a0) "pick" (isO<|isL<|isT3 K isS isS isS) (λa=>a.2.2.2.2.2):=(j4<|j4<|j4<|j4<|j4 EG)
abbrev xv(K:Gp)(Z00:Addr):Rfo Z02:=(oC "most" (fz isI)<|oC "start" (fz<|aS K Z00)<|oC "course" (oL<|fz<|aS K Z00)<|o1 "undone"<|oL<|fz<|aS K Z00)
abbrev bL(K:Gp)(Z00:Addr)(Z01:Addr):Rf Z02:=oOb Z01<|xv K Z00
theorem Z4C{K:Gp}{a0:Addr}:FLn (xv K a0) "most" (fz isI) (λa=>a.1) (λa b=>(b,a.2.1,a.2.2.1,a.2.2.2)):=Ba
theorem Z3w{K:Gp}{a0:Addr}:FLn (xv K a0) "start" (fz<|aS K a0) (λa=>a.2.1) (λa b=>(a.1,b,a.2.2.1,a.2.2.2)):=(uv Ba)
theorem Z1w{K:Gp}{a0:Addr}:FLn (xv K a0) "course" (oL<|fz<|aS K a0) (λa=>a.2.2.1) (λa b=>(a.1,a.2.1,b,a.2.2.2)):=(uv<|uv Ba)
theorem Z3j{K:Gp}{a0:Addr}:FLn (xv K a0) "undone" (oL<|fz<|aS K a0) (λa=>a.2.2.2) (λa b=>(a.1,a.2.1,a.2.2.1,b)):=(uv<|uv<|uv EH)
theorem lY{K:Gp}{a0:Addr}:CF (xv K a0) "undone" (oL<|fz<|aS K a0) (λa b=>(a.1,a.2.1,a.2.2.1,b)):=(Bb<|Bb<|Bb EI)
theorem Z7G{K:Gp}{a0:Addr}:FLe (xv K a0) 4:=(Bi<|Bi<|Bi EK)
theorem kJ:bootBuiltins "ValueError"=some (.type "ValueError"):=by decide +kernel
section
variable{P:GQ}{w:Ha}{K:Gp}{mg:Str->Option Gv}{base:Heap}
def fP(j n:Nat):List (Tx×Bool):=Ql n [([66,97,100,84,97,98,108,101,116],decide<|0=j),([66,97,100,82,111,119],decide<|1=j),([66,97,100,84,101,120,116],decide<|2=j),([66,97,100,77,97,114,107],decide<|3=j),([84,111,111,76,111,110,103],decide<|4=j),([84,111,111,84,105,103,104,116],decide<|5=j),([83,112,111,111,108,68,114,121],decide<|6=j),([78,111,84,97,98,108,101,116],decide<|7=j),([78,111,116,104,105,110,103,76,101,102,116],decide<|8=j),([85,110,108,105,107,101],decide<|9=j),([83,101,101,110,84,104,114,101,97,100],decide<|10=j),([78,111,83,117,99,104,87,97,121],decide<|11=j),([66,97,114,114,101,100],decide<|12=j),([110,111,32,66,97,110,100,69,114,114,111,114],false),([110,111,32,86,97,108,117,101,69,114,114,111,114],false)]
theorem eI{Er:Nat->Prop}{K:Gp}{x C:Addr}{Y:St}{W:Wd}{v:V}{c:Gv}{b:Bool}(h0:Y[0]? =some (some<|.ref x))(hv:kv v=some c)(hk:Hh K (.ref C) c=some b):
  EV Er (f9 (λxs H Q=>∃v c b,xs=[.ref x,v]/\kv v=some c/\Hh K (.ref C) c=some b/\Q (.bl b) H)<|ah (bC 0)<|ah (tC v) aO) Y W (sh isB) (.ok b):=λW1 e1 Q k=>
 ⟨.ref x,h0,v,c,b,rfl,hv,hk,k (.bl b) W1 (.refl _) rfl⟩
def zD(a:Tx×Bool):Res (Option Tx):=if a.2 then Gr (some a.1)else Gr none
theorem r0:∀j,j<13->iO (fP j 15) zD=.ok [kindN.getD j []]:=by
 intro j hj
 match j,hj with
 |0,_=>rfl
 |1,_=>rfl
 |2,_=>rfl
 |3,_=>rfl
 |4,_=>rfl
 |5,_=>rfl
 |6,_=>rfl
 |7,_=>rfl
 |8,_=>rfl
 |9,_=>rfl
 |10,_=>rfl
 |11,_=>rfl
 |12,_=>rfl
theorem xw{f:Addr}{fd:GJ}(F:Fun K "_law_kinds" "_law_kinds" (tp 64) f fd)(a0:mg "isinstance"=none)(c1:mg "ValueError"=none){a2 a3 a7 a8 a9 b0 b1 b2 b3 b4 b5 b6 b7 b8:Addr}(c2:mg "BadTablet"=some (.ref a2))(c3:mg "BadRow"=some (.ref a3))(c4:mg "BadText"=some (.ref a7))(c5:mg "BadMark"=some (.ref a8))(c6:mg "TooLong"=some (.ref a9))(c7:mg "TooTight"=some (.ref b0))(c8:mg "SpoolDry"=some (.ref b1))(c9:mg "NoTablet"=some (.ref b2))(d0:mg "NothingLeft"=some (.ref b3))(d1:mg "Unlike"=some (.ref b4))(d2:mg "SeenThread"=some (.ref b5))(d3:mg "NoSuchWay"=some (.ref b6))(d4:mg "Barred"=some (.ref b7))(d5:mg "BandError"=some (.ref b8)):
  FnOkH P w K mg base 1 f fd ["_law_e"] (iC K [a2,a3,a7,a8,a9,b0,b1,b2,b3,b4,b5,b6,b7] b8):=by
 have SC:FnScope ["_law_e","_law_known"] ["_law_e"] (defScope<|tp 64):=⟨rfl,rfl,rfl,by decide +kernel,rfl,by decide +kernel,by decide +kernel⟩
 refine Fun.okH F SC (λx C vs H Q E h=>?_)<|λx C Z9 A outer s H vs Q E hE hr h=>?_;·obtain⟨_,_,_,rfl,_⟩:=h;rfl
 ·obtain⟨W0,j,rfl,rfl,hZ,hj,hc,hB,hV,hq⟩:=h
  refine⟨_,(a6 (gB (i:=1) SC.nd rfl (by first|exact Ky rfl|exact Km rfl) (bR (a4 (aT (a4 ak (a4 (aj (bu (K:=K) rfl hE hZ) (by rfl) a0 Gz (a4 (pv 0) (a4 (bQ (v:=.ref a2) (by rfl) c2 rfl) a5))) a5))) (a4 (aT (a4 ak (a4 (aj (bu (K:=K) rfl hE hZ) (by rfl) a0 Gz (a4 (pv 0) (a4 (bQ (v:=.ref a3) (by rfl) c3 rfl) a5))) a5))) a5))))
   (a6 (gB (i:=1) SC.nd rfl (by first|exact Ky rfl|exact Km rfl) (ag gX (pv 1) (bR (a4 (aT (a4 ak (a4 (aj (bu (K:=K) rfl hE hZ) (by rfl) a0 Gz (a4 (pv 0) (a4 (bQ (v:=.ref a7) (by rfl) c4 rfl) a5))) a5))) (a4 (aT (a4 ak (a4 (aj (bu (K:=K) rfl hE hZ) (by rfl) a0 Gz (a4 (pv 0) (a4 (bQ (v:=.ref a8) (by rfl) c5 rfl) a5))) a5))) a5)))))
   (a6 (gB (i:=1) SC.nd rfl (by first|exact Ky rfl|exact Km rfl) (ag gX (pv 1) (bR (a4 (aT (a4 ak (a4 (aj (bu (K:=K) rfl hE hZ) (by rfl) a0 Gz (a4 (pv 0) (a4 (bQ (v:=.ref a9) (by rfl) c6 rfl) a5))) a5))) (a4 (aT (a4 ak (a4 (aj (bu (K:=K) rfl hE hZ) (by rfl) a0 Gz (a4 (pv 0) (a4 (bQ (v:=.ref b0) (by rfl) c7 rfl) a5))) a5))) a5)))))
   (a6 (gB (i:=1) SC.nd rfl (by first|exact Ky rfl|exact Km rfl) (ag gX (pv 1) (bR (a4 (aT (a4 ak (a4 (aj (bu (K:=K) rfl hE hZ) (by rfl) a0 Gz (a4 (pv 0) (a4 (bQ (v:=.ref b1) (by rfl) c8 rfl) a5))) a5))) (a4 (aT (a4 ak (a4 (aj (bu (K:=K) rfl hE hZ) (by rfl) a0 Gz (a4 (pv 0) (a4 (bQ (v:=.ref b2) (by rfl) c9 rfl) a5))) a5))) a5)))))
   (a6 (gB (i:=1) SC.nd rfl (by first|exact Ky rfl|exact Km rfl) (ag gX (pv 1) (bR (a4 (aT (a4 ak (a4 (aj (bu (K:=K) rfl hE hZ) (by rfl) a0 Gz (a4 (pv 0) (a4 (bQ (v:=.ref b3) (by rfl) d0 rfl) a5))) a5))) (a4 (aT (a4 ak (a4 (aj (bu (K:=K) rfl hE hZ) (by rfl) a0 Gz (a4 (pv 0) (a4 (bQ (v:=.ref b4) (by rfl) d1 rfl) a5))) a5))) a5)))))
   (a6 (gB (i:=1) SC.nd rfl (by first|exact Ky rfl|exact Km rfl) (ag gX (pv 1) (bR (a4 (aT (a4 ak (a4 (aj (bu (K:=K) rfl hE hZ) (by rfl) a0 Gz (a4 (pv 0) (a4 (bQ (v:=.ref b5) (by rfl) d2 rfl) a5))) a5))) (a4 (aT (a4 ak (a4 (aj (bu (K:=K) rfl hE hZ) (by rfl) a0 Gz (a4 (pv 0) (a4 (bQ (v:=.ref b6) (by rfl) d3 rfl) a5))) a5))) a5)))))
   (a6 (gB (i:=1) SC.nd rfl (by first|exact Ky rfl|exact Km rfl) (ag gX (pv 1) (bR (a4 (aT (a4 ak (a4 (aj (bu (K:=K) rfl hE hZ) (by rfl) a0 Gz (a4 (pv 0) (a4 (bQ (v:=.ref b7) (by rfl) d4 rfl) a5))) a5))) (a4 (aT (a4 ak (a4 (qr (aj (bu (K:=K) rfl hE hZ) (by rfl) a0 Gz (a4 (pv 0) (a4 (bQ (v:=.ref b8) (by rfl) d5 rfl) a5)))) a5))) a5)))))
   (a6 (gB (i:=1) SC.nd rfl (by first|exact Ky rfl|exact Km rfl) (ag gX (pv 1) (bR (a4 (aT (a4 ak (a4 (qr (aj (bu (K:=K) rfl hE hZ) (by rfl) a0 Gz (a4 (pv 0) (a4 (dU (v:=.ty "ValueError") (by rfl) c1 kJ rfl) a5)))) a5))) a5))))
   (ae (ai (wD (N:=["_law_name","_law_so"]) (cap:=[none,none]) (fu rfl ⋯ rfl ⋯ (by rfl) (by rfl)) hE.hdx (wB (K:=K) rfl (pv 1)) (λ_ _ _ _ hx=>(yY (K:=K) (n:=2) rfl hx (au (aJ (i:=0) (show H9 (["_law_name","_law_so"]:List Str) by decide +kernel) rfl (by first|exact Ky rfl|exact Km rfl)) (au (aJ (i:=1) (show H9 (["_law_name","_law_so"]:List Str) by decide +kernel) rfl (by first|exact Ky rfl|exact Km rfl)) cm)))) (λ_ _ _ _=>(kM (cO (pv 1)))) (λ_ _ _ _=>(pv 0))))))))))))),?_⟩
  have E0:Ext W0 W0:=.refl W0;rw[show L2.start ["_law_e","_law_known"] [.ref x]=[some (.ref x),none]from rfl];refine bj<|aR (Er:=λ_=>False) (i:=1) (R:=sh<|isL<|isT2 K isS isB) (m:=.ok<|fP j 2) (σ':=λv=>[some (.ref x),some v]) (HN (cZ (bf (aZ (K:=K) (aq (x:=Gq "BadTablet") (l:=[66,97,100,84,97,98,108,101,116]) (cQ _ _ ⋯))<|eI (K:=K) (C:=C) (v:=.ref a2) (c:=.ref a2) (b:=decide<|0=j) rfl rfl<|hc 0 _ rfl) (bf (aZ (K:=K) (aq (x:=Gq "BadRow") (l:=[66,97,100,82,111,119]) (cQ _ _ ⋯))<|eI (K:=K) (C:=C) (v:=.ref a3) (c:=.ref a3) (b:=decide<|1=j) rfl rfl<|hc 1 _ rfl)<|cY (R:=isT2 K isS isB))))) (λv0 W1 e0 h0=>?_)
  have E0:=E0.trans e0;refine bj<|aR (Er:=λ_=>False) (i:=1) (R:=sh<|isL<|isT2 K isS isB) (m:=.ok<|fP j 4) (σ':=λv=>[some (.ref x),some v]) (HN (fW (Jl<|aY (R:=sh<|isL<|isT2 K isS isB) h0) (JB (cZ (bf (aZ (K:=K) (aq (x:=Gq "BadText") (l:=[66,97,100,84,101,120,116]) (cQ _ _ ⋯))<|eI (K:=K) (C:=C) (v:=.ref a7) (c:=.ref a7) (b:=decide<|2=j) rfl rfl<|hc 2 _ rfl) (bf (aZ (K:=K) (aq (x:=Gq "BadMark") (l:=[66,97,100,77,97,114,107]) (cQ _ _ ⋯))<|eI (K:=K) (C:=C) (v:=.ref a8) (c:=.ref a8) (b:=decide<|3=j) rfl rfl<|hc 3 _ rfl)<|cY (R:=isT2 K isS isB))))))) (λv1 W2 e1 h1=>?_)
  have E0:=E0.trans e1;refine bj<|aR (Er:=λ_=>False) (i:=1) (R:=sh<|isL<|isT2 K isS isB) (m:=.ok<|fP j 6) (σ':=λv=>[some (.ref x),some v]) (HN (fW (Jl<|aY (R:=sh<|isL<|isT2 K isS isB) h1) (JB (cZ (bf (aZ (K:=K) (aq (x:=Gq "TooLong") (l:=[84,111,111,76,111,110,103]) (cQ _ _ ⋯))<|eI (K:=K) (C:=C) (v:=.ref a9) (c:=.ref a9) (b:=decide<|4=j) rfl rfl<|hc 4 _ rfl) (bf (aZ (K:=K) (aq (x:=Gq "TooTight") (l:=[84,111,111,84,105,103,104,116]) (cQ _ _ ⋯))<|eI (K:=K) (C:=C) (v:=.ref b0) (c:=.ref b0) (b:=decide<|5=j) rfl rfl<|hc 5 _ rfl)<|cY (R:=isT2 K isS isB))))))) (λv2 W3 e2 h2=>?_)
  have E0:=E0.trans e2;refine bj<|aR (Er:=λ_=>False) (i:=1) (R:=sh<|isL<|isT2 K isS isB) (m:=.ok<|fP j 8) (σ':=λv=>[some (.ref x),some v]) (HN (fW (Jl<|aY (R:=sh<|isL<|isT2 K isS isB) h2) (JB (cZ (bf (aZ (K:=K) (aq (x:=Gq "SpoolDry") (l:=[83,112,111,111,108,68,114,121]) (cQ _ _ ⋯))<|eI (K:=K) (C:=C) (v:=.ref b1) (c:=.ref b1) (b:=decide<|6=j) rfl rfl<|hc 6 _ rfl) (bf (aZ (K:=K) (aq (x:=Gq "NoTablet") (l:=[78,111,84,97,98,108,101,116]) (cQ _ _ ⋯))<|eI (K:=K) (C:=C) (v:=.ref b2) (c:=.ref b2) (b:=decide<|7=j) rfl rfl<|hc 7 _ rfl)<|cY (R:=isT2 K isS isB))))))) (λv3 W4 e3 h3=>?_)
  have E0:=E0.trans e3;refine bj<|aR (Er:=λ_=>False) (i:=1) (R:=sh<|isL<|isT2 K isS isB) (m:=.ok<|fP j 10) (σ':=λv=>[some (.ref x),some v]) (HN (fW (Jl<|aY (R:=sh<|isL<|isT2 K isS isB) h3) (JB (cZ (bf (aZ (K:=K) (aq (x:=Gq "NothingLeft") (l:=[78,111,116,104,105,110,103,76,101,102,116]) (cQ _ _ ⋯))<|eI (K:=K) (C:=C) (v:=.ref b3) (c:=.ref b3) (b:=decide<|8=j) rfl rfl<|hc 8 _ rfl) (bf (aZ (K:=K) (aq (x:=Gq "Unlike") (l:=[85,110,108,105,107,101]) (cQ _ _ ⋯))<|eI (K:=K) (C:=C) (v:=.ref b4) (c:=.ref b4) (b:=decide<|9=j) rfl rfl<|hc 9 _ rfl)<|cY (R:=isT2 K isS isB))))))) (λv4 W5 e4 h4=>?_)
  have E0:=E0.trans e4;refine bj<|aR (Er:=λ_=>False) (i:=1) (R:=sh<|isL<|isT2 K isS isB) (m:=.ok<|fP j 12) (σ':=λv=>[some (.ref x),some v]) (HN (fW (Jl<|aY (R:=sh<|isL<|isT2 K isS isB) h4) (JB (cZ (bf (aZ (K:=K) (aq (x:=Gq "SeenThread") (l:=[83,101,101,110,84,104,114,101,97,100]) (cQ _ _ ⋯))<|eI (K:=K) (C:=C) (v:=.ref b5) (c:=.ref b5) (b:=decide<|10=j) rfl rfl<|hc 10 _ rfl) (bf (aZ (K:=K) (aq (x:=Gq "NoSuchWay") (l:=[78,111,83,117,99,104,87,97,121]) (cQ _ _ ⋯))<|eI (K:=K) (C:=C) (v:=.ref b6) (c:=.ref b6) (b:=decide<|11=j) rfl rfl<|hc 11 _ rfl)<|cY (R:=isT2 K isS isB))))))) (λv5 W6 e5 h5=>?_)
  have E0:=E0.trans e5;refine bj<|aR (Er:=λ_=>False) (i:=1) (R:=sh<|isL<|isT2 K isS isB) (m:=.ok<|fP j 14) (σ':=λv=>[some (.ref x),some v]) (HN (fW (Jl<|aY (R:=sh<|isL<|isT2 K isS isB) h5) (JB (cZ (bf (aZ (K:=K) (aq (x:=Gq "Barred") (l:=[66,97,114,114,101,100]) (cQ _ _ ⋯))<|eI (K:=K) (C:=C) (v:=.ref b7) (c:=.ref b7) (b:=decide<|12=j) rfl rfl<|hc 12 _ rfl) (bf (aZ (K:=K) (aq (x:=Gq "no BandError") (l:=[110,111,32,66,97,110,100,69,114,114,111,114]) (cQ _ _ ⋯))<|vW<|eI (K:=K) (C:=C) (v:=.ref b8) (c:=.ref b8) (b:=true) rfl rfl hB)<|cY (R:=isT2 K isS isB))))))) (λv6 W7 e6 h6=>?_)
  have E0:=E0.trans e6;refine bj<|aR (Er:=λ_=>False) (i:=1) (R:=sh<|isL<|isT2 K isS isB) (m:=.ok<|fP j 15) (σ':=λv=>[some (.ref x),some v]) (HN (fW (Jl<|aY (R:=sh<|isL<|isT2 K isS isB) h6) (JB (cZ (bf (aZ (K:=K) (aq (x:=Gq "no ValueError") (l:=[110,111,32,86,97,108,117,101,69,114,114,111,114]) (cQ _ _ ⋯))<|vW<|eI (K:=K) (C:=C) (v:=.ty "ValueError") (c:=.type "ValueError") (b:=true) rfl rfl hV)<|cY (R:=isT2 K isS isB)))))) (λv7 W8 e7 h7=>?_)
  have E0:=E0.trans e7;refine iz (Er:=λ_=>False) (m:=.ok [kindN.getD j []]) (r0 j hj▸(pV (R:=isT2 K isS isB) (R':=isS) (m:=.ok<|fP j 15) (f:=zD) (dv<|aY (R:=sh<|isL<|isT2 K isS isB) h7) λW3 a1 v2 e4 h5 d9 b9=>?_:EVo (λ_=>False) _ _ _ isS ((Gr<|fP j 15).bind λxs=>iO xs zD)))<|λp W e hp o=>hq p W (E0.trans e) (none_of E0.h hp) o;refine lI h5 λv6 v8 h7 h9=>?_;cases h7;cases h9;refine⟨by simp[Keep,bI],((iZ<|aY (R:=sh isB) (a:=a1.2) (v:=.bl a1.2) rfl):TV (λ_=>False) _ [some (.str<|sOf a1.1),some<|.bl a1.2] _ _) _ (.refl _) _ ?_⟩;intro d6 c0;unfold zD at b9;cases hb:a1.2 with
  |false=>rw[hb]at b9;exact b9 none _ c0 trivial
  |true=>
   rw[hb]at b9;rw[Z1 rfl];exact((aY (R:=sh isS) (a:=a1.1) (v:=.str<|sOf a1.1) rfl):EV (λ_=>False) _ [some (.str<|sOf a1.1),some<|.bl true] _ _ _) d6 (.refl _) _ (λu e8 d7 d8=>b9 (some u) _ (c0.trans d7) d8)
end
end Wb
local macro_rules | `(tactic|walk_at "L")=>`(tactic|first | exact Ky rfl | exact Km rfl)
local macro_rules | `(tactic|walk_at "F")=>`(tactic|exact⟨rfl,rfl,rfl,by decide +kernel,rfl,by decide +kernel,by decide +kernel⟩)
namespace Wb
open PySem L2 Mi
section
variable{P:GQ}{w:Ha}{K:Gp}{mg:Str->Option Gv}{base:Heap}
theorem Fj{f:Addr}{fd:GJ}(F:Fun K "_law_at" "_law_at" (tp 45) f fd)(a1:mg "len"=none):FnOk P w K mg base CX0 (1) f fd ["_law_script","_law_k"] (cB (isScr K) isI (rs isI)<|DM):=by
 have SC:FnScope ["_law_script","_law_k"] ["_law_script","_law_k"] (defScope<|tp 45):=by walk_at "F"
 refine F.ok SC (λvs H Q E h=>?_)<|λZ9 A outer s H vs Q E hr h=>?_;·obtain⟨_,_,_,_,_,_,rfl,_⟩:=h;rfl
 ·obtain⟨W0,a3,l_k,b2,_,rfl,rfl,a0,z_l_k,Er,hq⟩:=h;cases z_l_k
  refine⟨_,(a6 (bq (aG mK (pv 1) (aj (bP (K:=K) rfl) (by rfl) a1 HH<|a4 (pv 0) a5)<|aH _) (ae<|ai<|av (bz (K:=K) rfl) (pv 0) (pv 1)<|λ_ _=>rfl) az)
   (ae (ai (ag aX (ag jG (ag cv (ag jG (pv 1) a8) a8) (ag cv (aj (bP (K:=K) rfl) (by rfl) a1 HH (a4 (pv 0) a5)) a8)) a8)))),?_⟩
  have E0:Ext W0 W0:=.refl W0;unfold DM at hq;refine br (Er:=Er) (aI<|eO bO<|mZ<|ba a0)<|λW1 e2=>?_;have E0:=E0.trans e2;have a0:=Gm e2.g a0;by_cases a2:(decide<|l_k<(a3.length:Int))=true
  ·rw[Z1 a2]at hq ⊢;exact aA (Er:=Er) (w8 (ba a0) bO)<|GP hq λy3 hq v4 W5 e6 h7=>hq v4 W5 (E0.trans e6) h7
  ·rw[Z2 a2]at hq ⊢
   try dsimp only[aD]
   exact aA (Er:=Er) (aE (λ_=>by decide) (qM (bG (aE (λ_=>.inr ⟨by decide,by decide⟩) bO) af)<|bG (mZ<|ba a0) af))<|GP hq λy9 hq a7 a9 b0 b1=>hq a7 a9 (E0.trans b0) b1
theorem Fm{f:Addr}{fd:GJ}(F:Fun K "_law_row" "_law_row" (tp 42) f fd)(d1:mg "abs"=none)(d2:mg "range"=none):FnOk P w K mg base CX0 (1) f fd ["_law_cell","_law_many","_law_base"] (jO isI isI isI (ro isI)<|DN):=by
 have SC:FnScope ["_law_cell","_law_many","_law_base","_law_now","_law_far","_law_mix","_law_out","_law_k"] ["_law_cell","_law_many","_law_base"] (defScope<|tp 42):=by walk_at "F"
 refine F.ok SC (λvs H Q E h=>?_)<|λZ9 A outer s H vs Q E hr h=>?_;·obtain⟨_,_,_,_,_,_,_,_,rfl,_⟩:=h;rfl
 ·obtain⟨W0,a2,b4,b1,_,_,_,rfl,rfl,d3,d4,d5,Er,hq⟩:=h;cases d3;cases d4;cases d5
  refine⟨_,(a6 (fh 3 (aj gW (by rfl) d1 Jr<|a4 (pv 0) a5))
   (a6 (fh 4<|eM vm (pv 3) (ag vj a8 a8)<|aH _)
   (a6 (fh 5<|ag aX (pv 3) a8)
   (a6 (fh 6<|bR a5)
   (a6 (dO HG rfl (iq rfl d2<|a4 (pv 1) a5) (gG 7) (a6 (fh 5<|ag aX (ag cv (ag cv (ag jG (pv 5) a8) a8)<|pv 7) a8)
   (ae (bq (N4<|l0 (cO<|pv 4)<|ja<|aG oQ (pv 3) a8<|aH _) (a6 (bT<|cj (K:=K) rfl (pv 6)<|a4 (ag aX (pv 3)<|pv 2) a5)
   (ae (fh 3 (ag cP (pv 3) (pv 2))))) (ae (bT (cj (K:=K) rfl (pv 6) (a4 (ag aX (ag aX (ag jG (pv 5) (pv 5)) a8) (pv 2)) a5))))))))
   (ae (ai (pv 6)))))))),?_⟩
  have E0:Ext W0 W0:=.refl W0;unfold DN at hq;refine bj<|aR (Er:=Er) (lG bO) (λv3 W1 e2 h4=>?_)
  cases h4;have E0:=E0.trans e2;refine bj<|aR (Er:=Er) (eO bO (rR (r:=1000000000000000000) ⋯ ⋯)) (λv7 W5 e6 h8=>?_)
  cases h8;have E0:=E0.trans e6;refine bj<|aR (Er:=Er) (aE (λ_=>by decide) bO) (λf9 W9 d6 d7=>?_)
  cases d7;have E0:=E0.trans d6;refine bj<|ji (Er:=Er) (o4 (R:=isI)) (λa7 g0 d8 d9 b5=>?_)
  have b6:=none_of E0.h d9;have E0:=E0.trans d8;refine eo (Er:=Er) (f:=(BI a2 b1)) (s0:=(((en a2)%2147483647),en a2,([]:List Int))) (Iv:=λ(b7:(Int×Int×(List Int)))(c6:Wd)(e0:St)=>∃(b8:Option V),e0=[some (.int a2),some<|.int b4,some<|.int b1,some<|.int b7.2.1,some<|.bl<|decide<|(1000000000000000000:Int)<=en a2,some<|.int b7.1,some<|.ref a7,b8]/\Ext W0 c6/\Ow isI c6 a7 b7.2.2) (jh bO) (Gj hq) ?_ ?_ ?_
  ·intro g1 c7;have E0:=E0.trans c7;have b5:=b5.mono c7;exact⟨_,rfl,E0,b5⟩
  ·intro g2 g3 g4 b2 g5 a9 g6 g7 g8 a0 iv b9 e1 hq;obtain⟨b8,rfl,E0,a1⟩:=iv;have E0:=E0.trans b9;have a0:=a0.trans b9.g;have a1:=a1.mono b9;cases e1;refine gn (σ':=[some (.int a2),some<|.int b4,some<|.int b1,some<|.int a9.2.1,some<|.bl<|decide<|(1000000000000000000:Int)<=en a2,some<|.int a9.1,some<|.ref a7,some<|.int b2]) ?_;unfold BI at hq;refine bj<|aR (Er:=Er) (aE (λ_=>by decide) (bG (bG (aE (λ_=>.inr ⟨by decide,by decide⟩) bO) af) bO)) (λg9 h0 c0 e3=>?_)
   cases e3;have E0:=E0.trans c0;have a0:=a0.trans c0.g;have a1:=a1.mono c0;refine og (Er:=Er) (Iv:=λ(c8:(Int×(List Int)))(c9:Wd)(e4:St)=>e4=[some (.int a2),some<|.int b4,some<|.int b1,some<|.int c8.1,some<|.bl<|decide<|(1000000000000000000:Int)<=en a2,some<|.int<|(((a9.1*48271)+(7919:Int))+b2)%2147483647,some<|.ref a7,some<|.int b2]/\Ext W0 c9/\Ow isI c9 a7 c8.2) (qN (iZ EU)<|aI<|eO bO af) (Gj hq) ?_ ?_ ?_
   ·intro e5 e7 a3 c1 hq;have b0:=a3.g;have E0:=E0.trans a3;have a0:=a0.trans a3.g;have a1:=a1.mono a3;refine bj<|jP (Er:=Er) a1 (lF bO bO) ((Gj hq).imp λe8 hq h1 c2 c3=>?_)
    have E0:=c2.e _ E0 b6;have a0:=a0.trans c2.g;have b0:=b0.trans c2.g;refine aR (Er:=Er) (yO bO bO)<|(Gj hq).imp λe9 hq h2 f0 b3 f1=>?_;cases f1;have E0:=E0.trans b3;have a0:=a0.trans b3.g;have b0:=b0.trans b3.g;have c3:=c3.mono b3;exact c1 (e9,e8) f0 _ b0 ⟨rfl,E0,c3⟩ hq
   ·intro e5 e7 a3 c1 hq;have c4:=a3.g;have E0:=E0.trans a3;have a0:=a0.trans a3.g;have a1:=a1.mono a3;refine jP (Er:=Er) a1 (lF (aE (λ_=>by decide)<|qM bO bO) bO)<|(Gj hq).imp λf2 hq f3 c5 f4=>?_;have E0:=c5.e _ E0 b6;have a0:=a0.trans c5.g;have c4:=c4.trans c5.g;exact c1 (a9.2.1,f2) f3 _ c4 ⟨rfl,E0,f4⟩ hq
   ·intro d0 f5 h3 f6 iv hq;obtain⟨rfl,E0,f7⟩:=iv;have a0:=a0.trans f6
    try dsimp only
    refine ee (W:=f5) (((((a9.1*48271)+(7919:Int))+b2)%2147483647),d0.1,d0.2) a0 ?_ hq;exact⟨_,rfl,E0,f7⟩
  ·intro h5 f8 h6 h7 iv hq;obtain⟨b8,rfl,E0,a1⟩:=iv;exact⟨.ref a7,rfl,hq a7 f8 E0 b6 a1⟩
theorem Fn{f:Addr}{fd:GJ}(F:Fun K "_law_holes" "_law_holes" (tp 43) f fd){lX:Int->Int->Int->Res (List Int)}(b2:Cal P w K mg base "_law_row" ["_law_cell","_law_many","_law_base"] (1) (jO isI isI isI (ro isI) lX)):FnOk P w K mg base CX0 (2) f fd ["_law_cell"] (dY isI (rs isS)<|DO lX):=by
 have SC:FnScope ["_law_cell","_law_size","_law_draws","_law_out","_law_d"] ["_law_cell"] (defScope<|tp 43):=by walk_at "F"
 refine F.ok SC (λvs H Q E h=>?_)<|λZ9 A outer s H vs Q E hr h=>?_;·obtain⟨_,_,_,_,rfl,_⟩:=h;rfl
 ·obtain⟨W0,a9,_,rfl,rfl,b3,Er,hq⟩:=h;cases b3;refine⟨_,(a6 (fh 1<|av (bz (K:=K) rfl) (bR<|a4 a8<|a4 a8<|a4 a8<|a4 a8<|a4 a8 a5) (ag aX (pv 0) a8)<|λ_ _=>rfl)
   (a6 (fh 2<|eK b2<|a4 (ag cP (pv 0) a8)<|a4 a8<|a4 a8 a5)
   (a6 (fh 3 ak)
   (a6 (dO HG rfl (cy (K:=K) rfl<|cw (lC (K:=K) rfl) (pv 2) dH<|cC a8) (gG 4)<|ae<|fh 3<|ag aF (pv 3)<|av dg ak (ag aX (ag cv (av (bz (K:=K) rfl) (pv 2) a8<|λ_ _=>rfl)<|ag jG (ag aX (pv 4)<|pv 1) a8) a8)<|λ_ _=>rfl)
   (ae (ai (pv 3))))))),?_⟩
  have E0:Ext W0 W0:=.refl W0;unfold DO at hq;refine bj<|aR (Er:=Er) (fc (JB<|cZ<|bf af<|bf af<|bf af<|bf af<|bf af<|cY (R:=isI)) (aE (λ_=>by decide) bO)) ((Gj hq).imp λy3 hq v4 W1 e2 h5=>?_)
  cases h5;have E0:=E0.trans e2;refine bj<|aR (Er:=Er) (HN (gm (aE (λ_=>⟨by decide,by decide⟩) bO) af af)) ((Gj hq).imp λy8 hq v9 W6 e7 a0=>?_)
  have E0:=E0.trans e7;refine bj<|aR (Er:=Er) (aq (x:=Gq "") (l:=[]) (cQ _ _ ⋯)) (λc9 d0 b0 b4=>?_)
  cases b4;have E0:=E0.trans b0;have a0:=Gm b0.g a0;refine eo (Er:=Er) (f:=(BJ y3 y8)) (s0:=([]:Tx)) (Iv:=λ(b5:Tx)(b6:Wd)(b7:St)=>∃(a2:Option V),b7=[some (.int a9),some<|.int y3,some v9,some<|.str<|sOf b5,a2]/\Ext W0 b6) (dv<|HN<|o6 (Jl<|ba a0) fV<|eJ af) (Gj hq) ?_ ?_ ?_
  ·intro d1 b1;have E0:=E0.trans b1;have a0:=Gm b1.g a0;exact⟨_,rfl,E0⟩
  ·intro d2 d3 d4 b8 d5 b9 d6 d7 c0 a1 iv a3 c1 hq;obtain⟨a2,rfl,E0⟩:=iv;have a0:=Gm c0 a0;have E0:=E0.trans a3;have a1:=a1.trans a3.g;have a0:=Gm a3.g a0;cases c1;refine gn (σ':=[some (.int a9),some<|.int y3,some v9,some<|.str<|sOf b9,some<|.int b8]) ?_;unfold BJ at hq;refine aR (Er:=Er) (bA cS (dh (aq (x:=Gq "abcdefghijklmnopqrstuvwxyz") (l:=[97,98,99,100,101,102,103,104,105,106,107,108,109,110,111,112,113,114,115,116,117,118,119,120,121,122]) (cQ _ _ ⋯)) (aE (λ_=>by decide) (bG (fc (Jl<|ba a0) af) (aE (λ_=>.inr ⟨by decide,by decide⟩)<|lF bO bO)))))<|(Gj hq).imp λc2 hq d8 c3 a7 c4=>?_;cases c4;have E0:=E0.trans a7;have a1:=a1.trans a7.g;have a0:=Gm a7.g a0
   try dsimp only
   refine ee (W:=c3) c2 a1 ?_ hq;exact⟨_,rfl,E0⟩
  ·intro d9 e0 e1 e3 iv hq;obtain⟨a2,rfl,E0⟩:=iv;exact aA (Er:=Er) cS<|λc5 c6 c7 c8=>hq c5 c6 (E0.trans c7) c8
theorem Fo{f:Addr}{fd:GJ}(F:Fun K "_law_card" "_law_card" (tp 44) f fd){zo:Int->Res Tx}(a0:Cal P w K mg base "_law_holes" ["_law_cell"] (2) (dY isI (rs isS) zo)):FnOk P w K mg base CX0 (3) f fd ["_law_cell"] (dY isI (rs<|qA K)<|DP zo):=by
 have SC:FnScope ["_law_cell"] ["_law_cell"] (defScope<|tp 44):=by walk_at "F"
 refine F.ok SC (λvs H Q E h=>?_)<|λZ9 A outer s H vs Q E hr h=>?_;·obtain⟨_,_,_,_,rfl,_⟩:=h;rfl
 ·obtain⟨W0,a2,_,rfl,rfl,a1,Er,hq⟩:=h;cases a1;refine⟨_,(ae<|ai<|aT<|a4 (av dg ak (ag aX (pv 0) a8)<|λ_ _=>rfl)<|a4 (eK a0<|a4 (ag cP (pv 0) a8) a5)<|a4 (ag aX (ag cP (pv 0) a8) a8) a5),?_⟩;have E0:Ext W0 W0:=.refl W0;unfold DP at hq;exact aA (Er:=Er) (fB (K:=K) (dh (aq (x:=Gq "SZ") (l:=[83,90]) (cQ _ _ ⋯)) (aE (λ_=>by decide) bO)) (dz (aE (λ_=>⟨by decide,by decide⟩) bO)) (aE (λ_=>by decide) (aE (λ_=>⟨by decide,by decide⟩) bO)))<|GP hq λy3 hq v4 W5 e6 h7=>hq v4 W5 (E0.trans e6) h7
theorem Fp{f:Addr}{fd:GJ}(F:Fun K "_law_draft" "_law_draft" (tp 46) f fd){ye:Int->Res Cd}{iI:List Int->Int->Res Int}(a6:Cal P w K mg base "_law_card" ["_law_cell"] (3) (dY isI (rs<|qA K) ye))(a7:Cal P w K mg base "_law_at" ["_law_script","_law_k"] (1) (cB (isScr K) isI (rs isI) iI))(a8:mg "range"=none):FnOk P w K mg base CX0 (4) f fd ["_law_script","_law_at_here","_law_width"] (jO (isScr K) isI isI (ro<|qA K)<|DQ ye iI):=by
 have SC:FnScope ["_law_script","_law_at_here","_law_width"] ["_law_script","_law_at_here","_law_width"] (defScope<|tp 46):=by walk_at "F"
 refine F.ok SC (λvs H Q E h=>?_)<|λZ9 A outer s H vs Q E hr h=>?_;·obtain⟨_,_,_,_,_,_,_,_,rfl,_⟩:=h;rfl
 ·obtain⟨W0,b8,a0,a3,a2,_,_,rfl,rfl,a9,b0,b1,Er,hq⟩:=h;cases b0;cases b1;refine⟨_,(ae (ai (d5 (N:=["_law_k","_law_script","_law_at_here"]) (cap:=[none,some 0,some 1]) (fu rfl ⋯ rfl ⋯ (by rfl) (by rfl)) rfl (iq rfl a8<|a4 (pv 2) a5) (λ_ _ _ _=>(aJ (i:=0) (show H9 (["_law_k","_law_script","_law_at_here"]:List Str) by decide +kernel) rfl (by walk_at "L"))) (λ_ _ _ _=>cn)<|λ_ _ _ _=>(eK a6<|a4 (eK a7<|a4 (pv 1)<|a4 (ag cv (pv 2)<|pv 0) a5) a5)))),?_⟩;have E0:Ext W0 W0:=.refl W0;rw[show L2.start ["_law_script","_law_at_here","_law_width"] [a2,.int a0,.int a3]=[some a2,some<|.int a0,some<|.int a3]from rfl];unfold DQ at hq;exact iz (Er:=Er) (cF (jh bO) λW3 a1 v2 e4 h5 b9 b2=>by
   have h6:=GX (R:=sh (isScr K)) e4 a9;cases h5;refine gn ?_;exact⟨by simp[Keep,bI],((dz (bM (ba h6) (bG bO bO))):EV Er _ [some (.int a1),some a2,some (.int a0)] _ _ _) _ (.refl _) _ b2⟩) (GP hq λc0 hq b3 b4 b5 b6 b7=>hq b3 b4 (E0.trans b5) (none_of E0.h b6) b7)
theorem Fq{f:Addr}{fd:GJ}(F:Fun K "_law_most" "_law_most" (tp 48) f fd):FnOk P w K mg base CX0 (1) f fd ["_law_cell"] (dY isI (rs isI)<|DS):=by
 have SC:FnScope ["_law_cell"] ["_law_cell"] (defScope<|tp 48):=by walk_at "F"
 refine F.ok SC (λvs H Q E h=>?_)<|λZ9 A outer s H vs Q E hr h=>?_;·obtain⟨_,_,_,_,rfl,_⟩:=h;rfl
 ·obtain⟨W0,a1,_,rfl,rfl,a2,Er,hq⟩:=h;cases a2;refine⟨_,(a6 (bq (aG cK (ag aX (pv 0) a8) a8<|aH _) (ae<|ai<|ag gV a8<|ag aX (ag cP (pv 0) a8) a8) az)
   (ae (ai (ag aX (ag cP (pv 0) a8) a8)))),?_⟩
  have E0:Ext W0 W0:=.refl W0;unfold DS at hq;refine br (Er:=Er) (aI (dQ (aE (λ_=>by decide) bO) af))<|λW1 e2=>?_;have E0:=E0.trans e2;by_cases a0:(decide<|(a1%3)=(0:Int))=true
  ·rw[Z1 a0]at hq ⊢;exact aA (Er:=Er) (bG af (aE (λ_=>by decide) (aE (λ_=>⟨by decide,by decide⟩) bO)))<|λv3 W4 e5 h6=>hq v3 W4 (E0.trans e5) h6
  ·rw[Z2 a0]at hq ⊢
   try dsimp only[aD]
   exact aA (Er:=Er) (aE (λ_=>by decide) (aE (λ_=>⟨by decide,by decide⟩) bO))<|λv7 W8 e9 a3=>hq v7 W8 (E0.trans e9) a3
theorem Ft{f:Addr}{fd:GJ}(F:Fun K "_law_spools" "_law_spools" (tp 47) f fd){lX:Int->Int->Int->Res (List Int)}(g3:Cal P w K mg base "_law_row" ["_law_cell","_law_many","_law_base"] (1) (jO isI isI isI (ro isI) lX))(g4:mg "int"=none):FnOk P w K mg base CX0 (2) f fd ["_law_draft_here","_law_cell"] (cB (isL<|qA K) isI (rs kW)<|DT lX):=by
 have SC:FnScope ["_law_draft_here","_law_cell","_law_out","_law_draws","_law_k","_law_card_here","_law_colour","_law_left_out"] ["_law_draft_here","_law_cell"] (defScope<|tp 47):=by walk_at "F"
 refine F.ok SC (λvs H Q E h=>?_)<|λZ9 A outer s H vs Q E hr h=>?_;·obtain⟨_,_,_,_,_,_,rfl,_⟩:=h;rfl
 ·obtain⟨W0,k6,b3,b5,_,rfl,rfl,b6,g5,Er,hq⟩:=h;cases g5;refine⟨_,(a6 (fh 2 p7)
   (a6 (fh 3<|eK g3<|a4 (ag cP (pv 1) a8)<|a4 a8<|a4 a8 a5)
   (a6 (fh 4 a8)
   (a6 (dO HG rfl (cy (K:=K) rfl<|pv 0) (gG 5) (ae (dO HG rfl (iS<|av (aw (K:=K) rfl) (pv 5) a8<|λ_ _=>rfl) (gG 6) (a6 (fh 7<|eM cK (ag aX (av (bz (K:=K) rfl) (pv 3) (pv 4)<|λ_ _=>rfl) a8) a8<|aH _)
   (a6 (bq (N4 (l0 (ve (tI (dZ hr) (pv 6)<|pv 2) (by with_unfolding_all rfl))<|ja<|dN<|cO<|pv 7)) (a6 (jd (dZ hr) (pv 2) (pv 6) (av (bz (K:=K) rfl) (pv 3) (pv 4)<|λ_ _=>rfl) rfl)
   (ae (bq (aG cK (ag aX (pv 1) a8) a8 (aH _)) (ae (jd (dZ hr) (pv 2) (pv 6) a8 rfl)) az))) az)
   (ae (fh 4 (ag cv (pv 4) a8))))))))
   (a6 (bq (aG cK (ag aX (av (bz (K:=K) rfl) (pv 3) a8<|λ_ _=>rfl) a8) a8<|aH _) (ae (jd (dZ hr) (pv 2) ak (ag jG (av (bz (K:=K) rfl) (pv 3) a8<|λ_ _=>rfl) (bF mL (by rfl) g4 JT<|a4 (eM oQ (ag aX (av (bz (K:=K) rfl) (pv 3) a8<|λ_ _=>rfl) a8) a8<|aH _) a5)) rfl)) az)
   (ae (sy (i:=2) (ai (pv 2))))))))),?_⟩
  have E0:Ext W0 W0:=.refl W0;unfold DT at hq;refine bj<|kN (Er:=Er) (rZ (g:=(λ(a:Tx)=>GU<|sOf a)) (R:=isI)) (λp3 W1 e2 hp4 o5=>?_)
  have fr6:=none_of E0.h hp4;have E0:=E0.trans e2;have b6:=Gm e2.g b6;refine bj<|aR (Er:=Er) (HN (gm (aE (λ_=>⟨by decide,by decide⟩) bO) af af)) ((Gj hq).imp λy9 hq b7 W7 e8 a0=>?_)
  have E0:=E0.trans e8;have b6:=Gm e8.g b6;have o5:=o5.mono e8;refine bj<|aR (Er:=Er) af (λk7 k8 d0 g6=>?_)
  cases g6;have E0:=E0.trans d0;have b6:=Gm d0.g b6;have o5:=o5.mono d0;have a0:=Gm d0.g a0;refine eo (Er:=Er) (f:=(BL b3 y9)) (s0:=((0:Int),([]:List (Tx×Int)))) (Iv:=λ(e9:(Int×cV))(f0:Wd)(g7:St)=>∃(c4:Option V)(c5:Option V)(d1:Option V),g7=[some b5,some<|.int b3,some<|.ref p3,some b7,some<|.int e9.1,d1,c4,c5]/\Ext W0 f0/\OwD (λ(a:Tx)=>GU<|sOf a) isI f0 p3 e9.2) (dv<|ba b6) (Gj hq) ?_ ?_ ?_
  ·intro k9 d5;have E0:=E0.trans d5;have o5:=o5.mono d5;have a0:=Gm d5.g a0;exact⟨_,_,_,rfl,E0,o5⟩
  ·intro l1 l2 l3 l4 c6 d6 l5 l6 g8 a1 iv d2 a2 hq;obtain⟨c4,c5,d1,rfl,E0,b1⟩:=iv;have a0:=Gm g8 a0;have E0:=E0.trans d2;have a1:=a1.trans d2.g;have b1:=b1.mono d2;have a0:=Gm d2.g a0;refine gn (σ':=[some b5,some<|.int b3,some<|.ref p3,some b7,some<|.int d6.1,some c6,c4,c5]) ?_;unfold BL at hq;refine oh (Er:=Er) (f:=(BK b3 y9)) (s0:=(d6.1,d6.2)) (Iv:=λ(f1:(Int×cV))(f2:Wd)(g9:St)=>∃(d3:Option V)(d7:Option V),g9=[some b5,some<|.int b3,some<|.ref p3,some b7,some<|.int f1.1,some c6,d7,d3]/\Ext W0 f2/\OwD (λ(a:Tx)=>GU<|sOf a) isI f2 p3 f1.2) (j0<|bt (f:=λ(b:Cd)=>b.2.1) pz<|ba a2) (Gj hq) ?_ ?_ ?_
   ·intro l7 c7;have E0:=E0.trans c7;have a1:=a1.trans c7.g;have b1:=b1.mono c7;have a0:=Gm c7.g a0;have a2:=Gm c7.g a2;exact⟨_,_,rfl,E0,b1⟩
   ·intro l8 l9 m0 d8 m1 c8 m2 m3 d9 a3 iv b9 h0 hq;obtain⟨d3,d7,rfl,E0,b0⟩:=iv;have a1:=a1.trans d9;have a0:=Gm d9 a0;have a2:=Gm d9 a2;have E0:=E0.trans b9;have a1:=a1.trans b9.g;have a3:=a3.trans b9.g;have b0:=b0.mono b9;have a0:=Gm b9.g a0;have a2:=Gm b9.g a2;cases h0;refine gn (σ':=[some b5,some<|.int b3,some<|.ref p3,some b7,some<|.int c8.1,some c6,some<|.str<|sOf d8,d3]) ?_;unfold BK at hq;refine bj<|aR (Er:=Er) (dQ (aE (λ_=>by decide)<|fc (Jl<|ba a0) bO) af) ((Gj hq).imp λf3 hq m4 m5 c0 h1=>?_)
    cases h1;have E0:=E0.trans c0;have a1:=a1.trans c0.g;have a3:=a3.trans c0.g;have b0:=b0.mono c0;have a0:=Gm c0.g a0;have a2:=Gm c0.g a2;refine lJ (Er:=Er) (Iv:=λ(h2:cV)(f4:Wd)(h3:St)=>h3=[some b5,some<|.int b3,some<|.ref p3,some b7,some<|.int c8.1,some c6,some<|.str<|sOf d8,some<|.bl f3]/\Ext W0 f4/\OwD (λ(a:Tx)=>GU<|sOf a) isI f4 p3 h2) (qN (aI<|ug gQ kS b0 cS)<|fb<|iZ EU) (Gj hq) ?_ ?_ ?_
    ·intro f5 h4 a9 e0 hq;have b2:=a9.g;have E0:=E0.trans a9;have a1:=a1.trans a9.g;have a3:=a3.trans a9.g;have b0:=b0.mono a9;have a0:=Gm a9.g a0;have a2:=Gm a9.g a2;refine bj<|jn (Er:=Er) gQ kS b0 (fc (Jl<|ba a0) bO) cS ((Gj hq).imp λh5 hq m6 c1 c2=>?_)
     have E0:=c1.e _ E0 fr6;have a1:=a1.trans c1.g;have a3:=a3.trans c1.g;have b2:=b2.trans c1.g;have a0:=Gm c1.g a0;have a2:=Gm c1.g a2;refine og (Er:=Er) (Iv:=λ(h6:cV)(f6:Wd)(h7:St)=>h7=[some b5,some<|.int b3,some<|.ref p3,some b7,some<|.int c8.1,some c6,some<|.str<|sOf d8,some<|.bl f3]/\Ext W0 f6/\OwD (λ(a:Tx)=>GU<|sOf a) isI f6 p3 h6) (aI (dQ (aE (λ_=>by decide) bO) af)) (Gj hq) ?_ ?_ ?_
     ·intro f7 h8 a7 e1 hq;have e3:=a7.g;have E0:=E0.trans a7;have a1:=a1.trans a7.g;have a3:=a3.trans a7.g;have b2:=b2.trans a7.g;have a0:=Gm a7.g a0;have a2:=Gm a7.g a2;have c2:=c2.mono a7;refine jn (Er:=Er) gQ kS c2 af cS<|(Gj hq).imp λh9 hq i0 b8 i1=>?_;have E0:=b8.e _ E0 fr6;have a1:=a1.trans b8.g;have a3:=a3.trans b8.g;have b2:=b2.trans b8.g;have e3:=e3.trans b8.g;have a0:=Gm b8.g a0;have a2:=Gm b8.g a2;exact e1 h9 i0 _ e3 ⟨rfl,E0,i1⟩ hq
     ·intro f7 h8 a7 e1 hq;have i2:=a7.g;have E0:=E0.trans a7;have a1:=a1.trans a7.g;have a3:=a3.trans a7.g;have b2:=b2.trans a7.g;have a0:=Gm a7.g a0;have a2:=Gm a7.g a2;have c2:=c2.mono a7
      try dsimp only[aD]
      exact e1 h5 f7 _ i2 ⟨rfl,E0,c2⟩ hq
     ·intro i3 i4 m7 c9 iv hq;obtain⟨rfl,E0,i5⟩:=iv;have a1:=a1.trans c9;have a3:=a3.trans c9;have b2:=b2.trans c9;have a0:=Gm c9 a0;have a2:=Gm c9 a2;exact e0 i3 i4 _ b2 ⟨rfl,E0,i5⟩ hq
    ·intro f5 h4 a9 e0 hq;have i6:=a9.g;have E0:=E0.trans a9;have a1:=a1.trans a9.g;have a3:=a3.trans a9.g;have b0:=b0.mono a9;have a0:=Gm a9.g a0;have a2:=Gm a9.g a2
     try dsimp only[aD]
     exact e0 c8.2 f5 _ i6 ⟨rfl,E0,b0⟩ hq
    ·intro i7 m8 m9 d4 iv hq;obtain⟨rfl,E0,e4⟩:=iv;have a1:=a1.trans d4;have a3:=a3.trans d4;have a0:=Gm d4 a0;have a2:=Gm d4 a2;refine aR (Er:=Er) (bG bO af)<|λn0 i8 c3 i9=>?_;cases i9;have E0:=E0.trans c3;have a1:=a1.trans c3.g;have a3:=a3.trans c3.g;have e4:=e4.mono c3;have a0:=Gm c3.g a0;have a2:=Gm c3.g a2
     try dsimp only
     refine ee (W:=i8) ((c8.1+(1:Int)),i7) a3 ?_ hq;exact⟨_,_,rfl,E0,e4⟩
   ·intro f8 j1 n1 e5 iv hq;obtain⟨d3,d7,rfl,E0,b0⟩:=iv;have a1:=a1.trans e5;have a0:=Gm e5 a0;have a2:=Gm e5 a2
    try dsimp only
    refine ee (W:=j1) (f8.1,f8.2) a1 ?_ hq;exact⟨_,_,_,rfl,E0,b0⟩
  ·intro f9 n2 n3 j2 iv hq;obtain⟨c4,c5,d1,rfl,E0,b1⟩:=iv;have a0:=Gm j2 a0;refine lJ (Er:=Er) (Iv:=λ(j3:cV)(g0:Wd)(j4:St)=>j4=[some b5,some<|.int b3,some<|.ref p3,some b7,some<|.int f9.1,d1,c4,c5]/\Ext W0 g0/\OwD (λ(a:Tx)=>GU<|sOf a) isI g0 p3 j3) (aI (dQ (aE (λ_=>by decide)<|fc (Jl<|ba a0) af) af)) (Gj hq) ?_ ?_ ?_
   ·intro g1 j5 b4 e6 hq;have e7:=b4.g;have E0:=E0.trans b4;have b1:=b1.mono b4;have a0:=Gm b4.g a0;refine jn (Er:=Er) gQ kS b1 (qM (fc (Jl<|ba a0) af) (rS (eO (aE (λ_=>by decide)<|fc (Jl<|ba a0) af) af))) (aq (x:=Gq "q") (l:=[113]) (cQ _ _ ⋯))<|(Gj hq).imp λj6 hq j7 g2 j8=>?_;have E0:=g2.e _ E0 fr6;have e7:=e7.trans g2.g;exact e6 j6 j7 _ e7 ⟨rfl,E0,j8⟩ hq
   ·intro g1 j5 b4 e6 hq;have j9:=b4.g;have E0:=E0.trans b4;have b1:=b1.mono b4;have a0:=Gm b4.g a0
    try dsimp only[aD]
    exact e6 f9.2 g1 _ j9 ⟨rfl,E0,b1⟩ hq
   ·intro n4 n5 n6 n7 iv hq;obtain⟨rfl,E0,k0⟩:=iv;refine sA k0 E0 fr6 λn8 E0 n9 k1 o0=>?_;exact aA (Er:=Er) (ba k1)<|λk2 k3 k4 k5=>hq k2 k3 (E0.trans k4) k5
theorem Fu{f:Addr}{fd:GJ}(F:Fun K "_law_loom_parts" "_law_loom_parts" (tp 50) f fd){iI:List Int->Int->Res Int}{uZ:List Int->Int->Int->Res (List Cd)}{zp:Int->Res Int}{zq:(List Cd)->Int->Res cV}(a1:Cal P w K mg base "_law_at" ["_law_script","_law_k"] (1) (cB (isScr K) isI (rs isI) iI))(a2:Cal P w K mg base "_law_draft" ["_law_script","_law_at_here","_law_width"] (4) (jO (isScr K) isI isI (ro<|qA K) uZ))(a7:Cal P w K mg base "_law_most" ["_law_cell"] (1) (dY isI (rs isI) zp))(a9:Cal P w K mg base "_law_spools" ["_law_draft_here","_law_cell"] (2) (cB (isL<|qA K) isI (rs kW) zq))(b0:mg "max"=none)(b1:mg "min"=none):FnOk P w K mg base CX0 (5) f fd ["_law_script"] (dY (isScr K) (rs<|isT3 K (isL<|qA K) isI kW)<|DU iI uZ zp zq):=by
 have SC:FnScope ["_law_script","_law_width","_law_draft_here"] ["_law_script"] (defScope<|tp 50):=by walk_at "F"
 refine F.ok SC (λvs H Q E h=>?_)<|λZ9 A outer s H vs Q E hr h=>?_;·obtain⟨_,_,_,_,rfl,_⟩:=h;rfl
 ·obtain⟨W0,b6,b7,rfl,rfl,a0,Er,hq⟩:=h;refine⟨_,(a6 (fh 1<|ag cv a8<|ag aX (eK a1<|a4 (pv 0)<|a4 a8 a5) a8)
   (a6 (fh 2 (ag gX (eK a2 (a4 (pv 0) (a4 a8 (a4 (aj (tD rfl) (by rfl) b1 MG<|a4 (pv 1)<|a4 a8 a5) a5)))) (eK a2 (a4 (pv 0) (a4 a8 (a4 (aj (jJ rfl) (by rfl) b0 JU<|a4 a8<|a4 (ag gV (pv 1) a8) a5) a5))))))
   (ae (ai (aT (a4 (pv 2) (a4 (eK a7 (a4 (eK a1 (a4 (pv 0) (a4 a8 a5))) a5)) (a4 (eK a9 (a4 (pv 2) (a4 (eK a1 (a4 (pv 0) (a4 a8 a5))) a5))) a5)))))))),?_⟩
  have E0:Ext W0 W0:=.refl W0;unfold DU at hq;refine bj<|aR (Er:=Er) (bG af (aE (λ_=>by decide)<|bM (ba a0) af)) ((Gj hq).imp λy5 hq v6 W1 e2 h7=>?_)
  cases h7;have E0:=E0.trans e2;have a0:=Gm e2.g a0;refine bj<|aR (Er:=Er) (HN<|fW (JB<|gm (ba a0) af<|yU bO af)<|JB<|gm (ba a0) af<|oi af<|bG bO af) ((Gj hq).imp λb8 hq b9 W8 e9 a3=>?_)
  have E0:=E0.trans e9;have a0:=Gm e9.g a0;exact aA (Er:=Er) (fB (K:=K) (ba a3) (dz<|bM (ba a0) af)<|bM (ba a3)<|bM (ba a0) af)<|GP hq λc0 hq b2 b3 b4 b5=>hq b2 b3 (E0.trans b4) b5
theorem Fv{f:Addr}{fd:GJ}{a0:Addr}(F:Fun K "__init__" "Stage.__init__" (tq 31 0) f fd)(a1:Cls K a0)(a2:NoAttr K a0 "deed")(a3:NoAttr K a0 "standing")(a4:NoAttr K a0 "reached")(a5:NoAttr K a0 "highest")(a7:NoAttr K a0 "lengths")(a8:NoAttr K a0 "pick"):FnOk P w K mg base CX0 (1) f fd ["self","deed","standing","reached","highest","lengths","pick"] (uy a0 ["deed","standing","reached","highest","lengths","pick"]):=by
 have SC:FnScope ["self","deed","standing","reached","highest","lengths","pick"] ["self","deed","standing","reached","highest","lengths","pick"] (defScope<|tq 31 0):=by walk_at "F"
 refine F.ok SC (λvs H Q E h=>?_)<|λZ9 A outer s H vs Q E hr h=>?_;·obtain⟨_,_,us,rfl,hl,_⟩:=h;rw[Hc,hl];rfl
 ·obtain⟨aa,dx,us,rfl,hl,ha,hq⟩:=h
  match us,hl,hq with
  | [u0,u1,u2,u3,u4,u5],_,hq=>
   refine⟨_,(a6 (fI (pv 0) (pv 1) rfl)
   (a6 (fI (pv 0) (pv 2) rfl)
   (a6 (fI (pv 0) (pv 3) rfl)
   (a6 (fI (pv 0) (pv 4) rfl)
   (a6 (fI (pv 0) (pv 5) rfl)
   (ae (fI (pv 0) (pv 6) rfl))))))),?_⟩
   refine⟨u0,rfl,.ref aa,rfl,aa,a0,dx,_,rfl,ha,a1,a2,(by show 0<1000;decide),⟨u1,rfl,.ref aa,rfl,aa,a0,dx,_,rfl,ao,a1,a3,(by show 1<1000;decide),⟨u2,rfl,.ref aa,rfl,aa,a0,dx,_,rfl,ao,a1,a4,(by show 2<1000;decide),⟨u3,rfl,.ref aa,rfl,aa,a0,dx,_,rfl,ao,a1,a5,(by show 3<1000;decide),⟨u4,rfl,.ref aa,rfl,aa,a0,dx,_,rfl,ao,a1,a7,(by show 4<1000;decide),⟨u5,rfl,.ref aa,rfl,aa,a0,dx,_,rfl,ao,a1,a8,(by show 5<1000;decide),?_⟩⟩⟩⟩⟩⟩;show Q .non _
   repeat rw[rn]
   exact hq
theorem Fw{f:Addr}{fd:GJ}(F:Fun K "first_stage" "first_stage" (tp 32) f fd){a0:Addr}(a6:CalI P w K mg base "Stage" a0 ["self","deed","standing","reached","highest","lengths","pick"] (1) (uy a0 ["deed","standing","reached","highest","lengths","pick"]))(b3:Cls K a0)(a7:mg "dict"=none)(a3:mg "len"=none)(a9:mg "list"=none):FnOk P w K mg base CX0 (3) f fd ["draft","spools"] (gj (wC (pk<|qA K)<|wC (pkD (λ(a:Tx)=>GU<|sOf a) isI) wN) (rs<|aS K a0)<|λa=>CL a.1 a.2.1):=by
 have SC:FnScope ["draft","spools"] ["draft","spools"] (defScope<|tp 32):=by walk_at "F"
 refine F.ok SC (λvs H Q E h=>?_)<|λZ9 A outer s H vs Q E hr h=>?_;·obtain⟨_,_,_,ra,_⟩:=h;obtain⟨_,us,rfl,_,ra⟩:=ra;obtain⟨_,us,rfl,_,ra⟩:=ra;cases ra;rfl
 ·obtain⟨W0,aa,rfl,ra,Er,hq⟩:=h;obtain⟨draft,spools,_⟩:=aa;obtain⟨b0,us,rfl,a1,ra⟩:=ra;replace a1:(pk<|qA K) W0 draft b0:=a1;obtain⟨b1,us,rfl,a2,ra⟩:=ra;replace a2:(pkD (λ(a:Tx)=>GU<|sOf a) isI) W0 spools b1:=a2;cases ra;replace hq:(CL draft spools).OkE Er (λr=>(rs<|aS K a0) W0 r Q):=hq;refine⟨_,(ae (ai (kT a6 (hr.mono ⋯) (by rfl) (a4 jD (a4 (bF (cM (K:=K) rfl) (by rfl) a9 HI<|a4 (pv 0) a5) (a4 (ag vA (bR<|a4 a8 a5) (aj (bP (K:=K) rfl) (by rfl) a3 HH<|a4 (pv 0) a5)) (a4 (ag vA (bR<|a4 a8 a5) (aj (bP (K:=K) rfl) (by rfl) a3 HH<|a4 (pv 0) a5)) (a4 (wU (bF gy (by rfl) a7 Jj<|a4 (pv 1) a5))<|a4 jD a5)))))))),?_⟩;have E0:Ext W0 W0:=.refl W0;unfold CL at hq;exact aA (Er:=Er) (lT (j5<|j5<|j5<|j5<|j5 Bd)<|bJ (di (K:=K) wx AQ)<|bJ (HN<|fi<|aY (R:=(pk<|qA K))<|GX E0 a1)<|bJ (HN<|sq (JB<|cZ<|bf af<|cY (R:=isI))<|ff<|aY (R:=(pk<|qA K))<|GX E0 a1)<|bJ (HN<|sq (JB<|cZ<|bf af<|cY (R:=isI))<|ff<|aY (R:=(pk<|qA K))<|GX E0 a1)<|bJ (EVd.ev<|i5<|aY (R:=(pkD (λ(a:Tx)=>GU<|sOf a) isI))<|GX E0 a2)<|lS<|nY (R:=(qD K)))<|GP hq λy6 hq v7 W8 e9 b2=>hq v7 W8 (E0.trans e9) b2
theorem Fx{f:Addr}{fd:GJ}(F:Fun K "__init__" "Loom.__init__" (tq 38 0) f fd){zt:(List Cd)->cV->Res eW}{a1 a0:Addr}(b0:Cal P w K mg base "first_stage" ["draft","spools"] (3) (gj (wC (pk<|qA K)<|wC (pkD (λ(a:Tx)=>GU<|sOf a) isI) wN) (rs<|aS K a1)<|λa=>zt a.1 a.2.1))(a2:Cls K a0)(b1:NoAttr K a0 "course")(b2:NoAttr K a0 "most")(b3:NoAttr K a0 "start")(b4:NoAttr K a0 "undone"):FnOk P w K mg base CX0 (4) f fd ["self","draft","most","spools"] (sC a0 (xv K a1) (wC (pk<|qA K)<|wC (sh isI)<|wC (pkD (λ(a:Tx)=>GU<|sOf a) isI) wN)<|λa=>CM zt a.1 a.2.1 a.2.2.1):=by
 have SC:FnScope ["self","draft","most","spools"] ["self","draft","most","spools"] (defScope<|tq 38 0):=by walk_at "F"
 refine F.ok SC (λvs H Q E h=>?_)<|λZ9 A outer s H vs Q E hr h=>?_;·obtain⟨_,_,_,_,_,us,_,rfl,_,_,_,_,_,_,_,_,ra,_⟩:=h;obtain⟨_,us,rfl,_,ra⟩:=ra;obtain⟨_,us,rfl,_,ra⟩:=ra;obtain⟨_,us,rfl,_,ra⟩:=ra;cases ra;rfl
 ·obtain⟨W0,W,aa,dx,ax,us,rfl,rfl,E0,n1,n2,nd,ga,gd,ha,hd,ra,Er,hq⟩:=h;obtain⟨draft,most,spools,_⟩:=ax;obtain⟨b5,us,rfl,a3,ra⟩:=ra;replace a3:(pk<|qA K) W0 draft b5:=a3;obtain⟨b6,us,rfl,a7,ra⟩:=ra;replace a7:(sh isI) W0 most b6:=a7;obtain⟨b7,us,rfl,a8,ra⟩:=ra;replace a8:(pkD (λ(a:Tx)=>GU<|sOf a) isI) W0 spools b7:=a8;cases ra;cases a7;replace hq:(CM zt draft most spools).OkE Er (λb=>∀W' F,Ext W0 W'->(∀q,F q->W0.H q=none)->oOb a0 (xv K a1) W' F b (.ref aa)->Q .non W'.H):=hq;refine⟨_,(a6 (fI (pv 0) (pv 2) rfl)
   (a6 (fI (pv 0) (eK b0<|a4 (pv 1)<|a4 (pv 3) a5) rfl)
   (a6 (fI (pv 0) (bR a5) rfl)
   (ae (fI (pv 0) (bR a5) rfl))))),?_⟩
  have S:Sep W0 W [tc (oRaw a0 aa dx []) () (.ref aa)]:=MU (R:=oRaw a0 aa dx []) (F:=λq=>q=aa\/q=dx) ⟨rfl,ga,gd,ha,hd,nd,λq=>JZ⟩ (λq hq=>hq.elim (λz=>by rw[z];exact n1) λz=>by rw[z];exact n2);unfold CM at hq;refine bj<|oz (Er:=Er) a2 b2 (by show 0<1000;decide) S E0 (EV.trf bO) (λu1 W2 E0 hS3 S=>?_)
  rw[jx]at S;have S:Sep W0 W2 [tc (oRaw a0 aa dx [("most",u1)]) () (.ref aa),tc (fz isI) most u1]:=S;refine bj<|oz (Er:=Er) a2 b3 (by show 1<1000;decide) S E0 (EV.trf<|i6<|cI (R:=(pk<|qA K)) (aY (R:=(pk<|qA K))<|GX E0 a3)<|cI (R:=(pkD (λ(a:Tx)=>GU<|sOf a) isI)) (aY (R:=(pkD (λ(a:Tx)=>GU<|sOf a) isI))<|GX E0 a8) cE) ((Gj hq).imp λy7 hq u4 W5 E0 hS6 S=>?_)
  rw[iH ⋯,jx]at S;have S:Sep W0 W5 [tc (oRaw a0 aa dx [("most",u1),("start",u4)]) () (.ref aa),tc (fz isI) most u1,tc (fz<|aS K a1) y7 u4]:=S;refine bj<|oz (Er:=Er) a2 b1 (by show 2<1000;decide) S E0 (jt (R:=(fz<|aS K a1))) (λu8 W9 E0 b9 S=>?_)
  rw[iH ⋯,iH ⋯,jx]at S;have S:Sep W0 W9 [tc (oRaw a0 aa dx [("most",u1),("start",u4),("course",u8)]) () (.ref aa),tc (fz isI) most u1,tc (fz<|aS K a1) y7 u4,tc (oL<|fz<|aS K a1) ([]:List eW) u8]:=S;refine oz (Er:=Er) a2 b4 (by show 3<1000;decide) S E0 (jt (R:=(fz<|aS K a1)))<|λa9 b8 E0 c0 S=>?_;rw[iH ⋯,iH ⋯,iH ⋯,jx]at S;have S:Sep W0 b8 [tc (oRaw a0 aa dx [("most",u1),("start",u4),("course",u8),("undone",a9)]) () (.ref aa),tc (fz isI) most u1,tc (fz<|aS K a1) y7 u4,tc (oL<|fz<|aS K a1) ([]:List eW) u8,tc (oL<|fz<|aS K a1) ([]:List eW) a9]:=S;obtain⟨F,hF,t⟩:=EJ S;exact hq _ F E0 hF t
abbrev kq(K:Gp):=isT4 K (isL<|qA K) (isL isI) (isL isI) kW
theorem Fy{f:Addr}{fd:GJ}(F:Fun K "_law_begin" "_law_begin" (tp 49) f fd)(a6:mg "dict"=none)(a7:mg "list"=none):FnOk P w K mg base CX0 (1) f fd ["_law_draft_here","_law_spools_here"] (cB (isL<|qA K) kW (rs<|kq K)<|DV):=by
 have SC:FnScope ["_law_draft_here","_law_spools_here"] ["_law_draft_here","_law_spools_here"] (defScope<|tp 49):=by walk_at "F"
 refine F.ok SC (λvs H Q E h=>?_)<|λZ9 A outer s H vs Q E hr h=>?_;·obtain⟨_,_,_,_,_,_,rfl,_⟩:=h;rfl
 ·obtain⟨W0,b6,b7,a2,a3,rfl,rfl,a0,a9,Er,hq⟩:=h;refine⟨_,(ae (ai (aT (a4 (bF (cM (K:=K) rfl) (by rfl) a7 HI<|a4 (pv 0) a5) (a4 (d5 (N:=["_law_card_here"]) (cap:=[none]) (fu rfl ⋯ rfl ⋯ (by rfl) (by rfl)) rfl (cy (K:=K) rfl<|pv 0) (λ_ _ _ _=>(aJ (i:=0) (show H9 (["_law_card_here"]:List Str) by decide +kernel) rfl (by walk_at "L"))) (λ_ _ _ _=>cn)<|λ_ _ _ _=>a8) (a4 (d5 (N:=["_law_card_here"]) (cap:=[none]) (fu rfl ⋯ rfl ⋯ (by rfl) (by rfl)) rfl (cy (K:=K) rfl<|pv 0) (λ_ _ _ _=>(aJ (i:=0) (show H9 (["_law_card_here"]:List Str) by decide +kernel) rfl (by walk_at "L"))) (λ_ _ _ _=>cn)<|λ_ _ _ _=>a8) (a4 (wU (bF gy (by rfl) a6 Jj<|a4 (pv 1) a5)) a5))))))),?_⟩;have E0:Ext W0 W0:=.refl W0;rw[show L2.start ["_law_draft_here","_law_spools_here"] [a2,a3]=[some a2,some a3]from rfl];unfold DV at hq;exact aA (Er:=Er) (oo (K:=K) (HN<|fi<|Jl<|ba a0) (HN (cF (dv<|ba a0) λW3 a1 v2 e4 h5 Q8 k9=>by
   refine gn ?_;exact⟨by simp[Keep,bI],(af:EV Er _ [some v2] _ _ _) _ (.refl _) _ k9⟩)) (HN (cF (dv (ba a0)) λb8 b9 b0 c0 c1 c2 b1=>by
   refine gn ?_;exact⟨by simp[Keep,bI],(af:EV Er _ [some b0] _ _ _) _ (.refl _) _ b1⟩)) (EVd.ev (i5 (M0 (ba a9))))) (GP hq λc3 hq b2 b3 b4 b5=>hq b2 b3 (E0.trans b4) b5)
theorem Fz{f:Addr}{fd:GJ}(F:Fun K "deeds" "Loom.deeds" (tq 38 10) f fd){a0 a2:Addr}(a5:Cls K a2)(a6:Cls K a0)(a7:NoAttr K a2 "course")(a8:NoAttr K a0 "deed"):FnOk P w K mg base CX0 (1) f fd ["self"] (gj (wC (vw<|bL K a0 a2) wN) (ro<|isU K)<|λa=>CN a.1):=by
 have SC:FnScope ["self"] ["self"] (defScope<|tq 38 10):=by walk_at "F"
 refine F.ok SC (λvs H Q E h=>?_)<|λZ9 A outer s H vs Q E hr h=>?_;·obtain⟨_,_,_,ra,_⟩:=h;obtain⟨_,us,rfl,_,ra⟩:=ra;cases ra;rfl
 ·obtain⟨W0,aa,rfl,ra,Er,hq⟩:=h;obtain⟨self,_⟩:=aa;obtain⟨a3,us,rfl,a4,ra⟩:=ra;replace a4:(vw<|bL K a0 a2) W0 self a3:=a4;cases ra;replace hq:(CN self).OkE Er (λr=>(ro<|isU K) W0 r Q):=hq;refine⟨_,(ae (ai (d5 (N:=["stage"]) (cap:=[none]) (fu rfl ⋯ rfl ⋯ (by rfl) (by rfl)) rfl (cy (K:=K) rfl<|aM (K:=K) rfl (pv 0) rfl) (λ_ _ _ _=>(aJ (i:=0) (show H9 (["stage"]:List Str) by decide +kernel) rfl (by walk_at "L"))) (λ_ _ _ _=>cn)<|λ_ _ _ _=>(aM (K:=K) rfl (pv 0) rfl)))),?_⟩;have E0:Ext W0 W0:=.refl W0;rw[show L2.start ["self"] [a3]=[some a3]from rfl];unfold CN at hq;exact iz (Er:=Er) (pU (lU (K:=K)<|eU<|eV a5 a7 Z1w.at_<|aY (R:=(vw<|bL K a0 a2))<|GX E0 a4) λW3 a1 v2 e4 h5 Q8 k9=>by
   refine gn ?_;exact⟨by simp[Keep,bI],((cJ a6 a8 i8 (ba h5)):EV Er _ [some v2] _ _ _) _ (.refl _) _ k9⟩) (GP hq λb4 hq a9 b0 b1 b2 b3=>hq a9 b0 (E0.trans b1) (none_of E0.h b2) b3)
theorem FA{f:Addr}{fd:GJ}(F:Fun K "told" "told" (tp 40) f fd){pX:Z02->Res (List Dat)}{a1 a0:Addr}(b2:CalM P w K mg base CX0 a0 "deeds" ["self"] (1) (gj (wC (vw<|bL K a1 a0) wN) (ro<|isU K)<|λa=>pX a.1))(a3:Cls K a0)(b0:Cls K a1)(b3:NoAttr K a0 "most")(b1:NoAttr K a0 "start")(b4:NoAttr K a1 "lengths")(b5:NoAttr K a1 "standing")(b6:mg "sorted"=none):FnOk P w K mg base CX0 (2) f fd ["loom"] (gj (wC (vw<|bL K a1 a0) wN) (rs isS)<|λa=>CO pX a.1):=by
 have SC:FnScope ["loom","lengths","lines"] ["loom"] (defScope<|tp 40):=by walk_at "F"
 refine F.ok SC (λvs H Q E h=>?_)<|λZ9 A outer s H vs Q E hr h=>?_;·obtain⟨_,_,_,ra,_⟩:=h;obtain⟨_,us,rfl,_,ra⟩:=ra;cases ra;rfl
 ·obtain⟨W0,aa,rfl,ra,Er,hq⟩:=h;obtain⟨loom,_⟩:=aa;obtain⟨a7,us,rfl,a2,ra⟩:=ra;replace a2:(vw<|bL K a1 a0) W0 loom a7:=a2;cases ra;replace hq:(CO pX loom).OkE Er (λr=>(rs isS) W0 r Q):=hq;refine⟨_,(a6 (fh 1<|aM (K:=K) rfl (aM (K:=K) rfl (pv 0) rfl) rfl)
   (a6 (fh 2<|bR<|a4 (fF<|gf<|gh (aM (K:=K) rfl (pv 0) rfl) jV) a5)
   (a6 (bT (gF (K:=K) rfl Ht Jc JA ir (pv 2) (a4 (d5 (N:=["colour","lengths"]) (cap:=[none,some 1]) (fu rfl ⋯ rfl ⋯ (by rfl) (by rfl)) rfl (cy (K:=K) rfl (aj (mG rfl) (by rfl) b6 Pe<|a4 (pv 1) a5)) (λ_ _ _ _=>(aJ (i:=0) (show H9 (["colour","lengths"]:List Str) by decide +kernel) rfl (by walk_at "L"))) (λ_ _ _ _=>cn)<|λ_ _ _ _=>(fF<|gf<|gh (pv 0)<|gf<|gh (nR (dZ hr) (pv 1) (pv 0)<|λ_ _=>rfl) jV)) a5)))
   (a6 (bT (gF (K:=K) rfl Ht Jc JA ir (pv 2) (a4 (d5 (N:=["lay","holes","stand"]) (cap:=[none,none,none]) (fu rfl ⋯ rfl ⋯ (by rfl) (by rfl)) rfl (cy (K:=K) rfl<|aM (K:=K) rfl (aM (K:=K) rfl (pv 0) rfl) rfl) (λ_ _ _ _=>(cD (K:=K) (n:=3) rfl rfl (au (aJ (i:=0) (show H9 (["lay","holes","stand"]:List Str) by decide +kernel) rfl (by walk_at "L")) (au (aJ (i:=1) (show H9 (["lay","holes","stand"]:List Str) by decide +kernel) rfl (by walk_at "L")) (au (aJ (i:=2) (show H9 (["lay","holes","stand"]:List Str) by decide +kernel) rfl (by walk_at "L")) cm))))) (λ_ _ _ _=>cn)<|λ_ _ _ _=>(fF<|gf<|gh (pv 0)<|gf<|gh (pv 1)<|gf<|gh (pv 2) jV)) a5)))
   (a6 (bT (gF (K:=K) rfl Ht Jc JA ir (pv 2) (a4 (d5 (N:=["word","what"]) (cap:=[none,none]) (fu rfl ⋯ rfl ⋯ (by rfl) (by rfl)) rfl (cy (K:=K) rfl (et b2 (hr.mono ⋯)<|pv 0)) (λ_ _ _ _=>(cD (K:=K) (n:=2) rfl rfl (au (aJ (i:=0) (show H9 (["word","what"]:List Str) by decide +kernel) rfl (by walk_at "L")) (au (aJ (i:=1) (show H9 (["word","what"]:List Str) by decide +kernel) rfl (by walk_at "L")) cm)))) (λ_ _ _ _=>cn)<|λ_ _ _ _=>(fF<|gh (pv 0)<|gf<|gh (pv 1) jV)) a5)))
   (ae (ai (gF (K:=K) rfl JP KL KN (pM (K:=K) rfl) ak (a4 (pv 2) a5))))))))),?_⟩
  have E0:Ext W0 W0:=.refl W0;rw[show L2.start ["loom","lengths","lines"] [a7]=[some a7,none,none]from rfl];unfold CO at hq;refine bj<|aR (Er:=Er) (cJ b0 b4 eX<|eS<|eV a3 b1 Z3w.at_<|aY (R:=(vw<|bL K a1 a0))<|GX E0 a2) (λv3 W1 e2 h4=>?_)
  have E0:=E0.trans e2;refine bj<|ji (Er:=Er) (cZ (bf (fG (gi (x:=Gq "loom ") (l:=[108,111,111,109,32]) (cQ _ _ ⋯)<|jq (eS<|eV a3 b3 Z4C.at_<|aY (R:=(vw<|bL K a1 a0))<|GX E0 a2) jW))<|cY (R:=isS))) ((Gj hq).imp λe8 hq e9 W5 e6 b7 b8=>?_)
  have a8:=none_of E0.h b7;have E0:=E0.trans e6;have h4:=Gm e6.g h4;refine bj<|qT (Er:=Er) b8 (JB (cF (dv<|HN<|uD<|M0<|ba h4) λf0 b9 f1 c0 c1 f2 c2=>by
   have c3:=GX (R:=sh kW) c0 h4;cases c1;refine gn ?_;exact⟨by simp[Keep,bI],((fG (gi (x:=Gq "spool ") (l:=[115,112,111,111,108,32]) (cQ _ _ ⋯) (iD cS (gi (x:=Gq " ") (l:=[32]) (cQ _ _ ⋯) (jq (lQ gQ kS (M0 (ba c3)) cS) jW))))):EV Er _ [some (.str (sOf b9)),some v3] _ _ _) _ (.refl _) _ c2⟩)) ((Gj hq).imp λf3 hq f4 c4 c5=>?_)
  have E0:=c4.e _ E0 a8;refine bj<|qT (Er:=Er) c5 (JB (cF (dv<|cJ b0 b5 bU<|eS<|eV a3 b1 Z3w.at_<|aY (R:=(vw<|bL K a1 a0))<|GX E0 a2) λf5 a9 f6 f7 c6 f8 c7=>by
   refine pA c6 λf9 g0 g1 c8 c9 d0=>?_;cases c8;cases c9;cases d0;exact⟨by simp[Keep,bI],((fG (gi (x:=Gq "tablet ") (l:=[116,97,98,108,101,116,32]) (cQ _ _ ⋯) (iD cS (gi (x:=Gq " ") (l:=[32]) (cQ _ _ ⋯) (iD cS (gi (x:=Gq " ") (l:=[32]) (cQ _ _ ⋯) (jq bO jW))))))):EV Er _ [some (.str (sOf a9.1)),some (.str (sOf a9.2.1)),some (.int a9.2.2)] _ _ _) _ (.refl _) _ c7⟩)) ((Gj hq).imp λg2 hq g3 d1 d2=>?_)
  have E0:=d1.e _ E0 a8;refine bj<|qT (Er:=Er) d2 (JB (cF (Bj (K:=K) (Co gs Cn)<|dv<|HN<|oy (bV<|bV<|bV gH) (aY (R:=(vw<|bL K a1 a0))<|GX E0 a2) cE) λg4 d3 g5 g6 d4 g7 d6=>by
   refine lI d4 λg8 d7 d8 d9=>?_;cases d8;exact⟨by simp[Keep,bI],((fG (iD cS (gi (x:=Gq " ") (l:=[32]) (cQ _ _ ⋯) (zk (K:=K) (ba d9) jW)))):EV Er _ [some (.str (sOf d3.1)),some d7] _ _ _) _ (.refl _) _ d6⟩)) ((Gj hq).imp λg9 hq h0 e0 e1=>?_)
  have E0:=e0.e _ E0 a8;exact aA (Er:=Er) (pN (l:=[10]) (cQ _ _ ⋯)<|nX e1)<|GP hq λh1 hq e3 e4 e5 e7=>hq e3 e4 (E0.trans e5) e7
theorem FC{f:Addr}{fd:GJ}(F:Fun K "_law_lines" "_law_lines" (tp 68) f fd)(c4:mg "str"=none):FnOk P w K mg base CX0 (1) f fd ["_law_draft_here","_law_most_here","_law_spools_here","_law_done"] (yR (isL<|qA K) isI kW (isL<|isU K) (rs isS)<|DW):=by
 have SC:FnScope ["_law_draft_here","_law_most_here","_law_spools_here","_law_done","_law_out","_law_colour","_law_card_here","_law_deed_here"] ["_law_draft_here","_law_most_here","_law_spools_here","_law_done"] (defScope<|tp 68):=by walk_at "F"
 refine F.ok SC (λvs H Q E h=>?_)<|λZ9 A outer s H vs Q E hr h=>?_;·obtain⟨_,_,_,_,_,_,_,_,_,_,rfl,_⟩:=h;rfl
 ·obtain⟨W0,i1,b0,e5,i2,b1,_,b2,b3,rfl,rfl,a1,e6,a2,a0,Er,hq⟩:=h;cases e6
  refine⟨_,(a6 (fh 4 (bR (a4 (ag aF ak (bF gC (by rfl) c4 IG<|a4 (pv 1) a5)) a5)))
   (a6 (dO HG rfl (iS ak) (gG 5) (ae (bq (ve (AH (dZ hr) (pv 5)<|pv 2) (by with_unfolding_all rfl)) (ae (bT (cj (K:=K) rfl (pv 4) (a4 (ag aF (ag aF (ag aF ak<|pv 5) ak) (bF gC (by rfl) c4 IG<|a4 (nR (dZ hr) (pv 2) (pv 5)<|λ_ _=>rfl) a5)) a5)))) az)))
   (a6 (dO HG rfl (cy (K:=K) rfl<|pv 0) (gG 6) (ae (bT (cj (K:=K) rfl (pv 4) (a4 (ag aF (ag aF (ag aF (ag aF (ag aF ak<|av (aw (K:=K) rfl) (pv 6) a8<|λ_ _=>rfl) ak)<|av (aw (K:=K) rfl) (pv 6) a8<|λ_ _=>rfl) ak) (bF gC (by rfl) c4 IG<|a4 (av (aw (K:=K) rfl) (pv 6) a8<|λ_ _=>rfl) a5)) a5)))))
   (a6 (dO HG rfl (cy (K:=K) rfl<|pv 3) (gG 7) (ae (bT (cj (K:=K) rfl (pv 4) (a4 (ag aF (ag aF (av (aw (K:=K) rfl) (pv 7) a8<|λ_ _=>rfl) ak) (bF uC (by rfl) c4 IG<|a4 (av (aw (K:=K) rfl) (pv 7) a8<|λ_ _=>rfl) a5)) a5)))))
   (ae (ai (gF (K:=K) rfl JP KL KN (pM (K:=K) rfl) ak (a4 (pv 4) a5)))))))),?_⟩
  have E0:Ext W0 W0:=.refl W0;unfold DW at hq;refine bj<|ji (Er:=Er) (cZ (bf (bA (aq (x:=Gq "loom ") (l:=[108,111,111,109,32]) (cQ _ _ ⋯))<|ou bO)<|cY (R:=isS))) ((Gj hq).imp λy5 hq p6 W1 e2 hp7 o8=>?_)
  have fr9:=none_of E0.h hp7;have E0:=E0.trans e2;have a1:=Gm e2.g a1;have a2:=Gm e2.g a2;have a0:=Gm e2.g a0;refine eo (Er:=Er) (f:=(BM e5)) (s0:=y5) (Iv:=λ(e7:(List Tx))(d6:Wd)(e8:St)=>∃(b4:Option V),e8=[some b1,some<|.int b0,some b2,some b3,some<|.ref p6,b4,none,none]/\Ext W0 d6/\Ow isS d6 p6 e7) (j0 (aq (x:=Gq "abcdefghijklmnopqrstuvwxyz") (l:=[97,98,99,100,101,102,103,104,105,106,107,108,109,110,111,112,113,114,115,116,117,118,119,120,121,122]) (cQ _ _ ⋯))) (by rw[Gk,Gk];exact Gj hq) ?_ ?_ ?_
  ·intro i3 b8;have E0:=E0.trans b8;have a1:=Gm b8.g a1;have a2:=Gm b8.g a2;have a0:=Gm b8.g a0;have o8:=o8.mono b8;exact⟨_,rfl,E0,o8⟩
  ·intro i4 i5 i6 d7 i7 e9 i8 i9 c9 a9 iv b6 f0 hq;obtain⟨b4,rfl,E0,a7⟩:=iv;have a1:=Gm c9 a1;have a2:=Gm c9 a2;have a0:=Gm c9 a0;have E0:=E0.trans b6;have a9:=a9.trans b6.g;have a1:=Gm b6.g a1;have a2:=Gm b6.g a2;have a0:=Gm b6.g a0;have a7:=a7.mono b6;cases f0;refine gn (σ':=[some b1,some<|.int b0,some b2,some b3,some<|.ref p6,some<|.str<|sOf d7,none,none]) ?_;unfold BM at hq;refine og (Er:=Er) (Iv:=λ(f1:(List Tx))(d8:Wd)(f2:St)=>f2=[some b1,some<|.int b0,some b2,some b3,some<|.ref p6,some<|.str<|sOf d7,none,none]/\Ext W0 d8/\Ow isS d8 p6 f1) (aI<|Bk gQ kS cS<|M0<|ba a2) (Gj hq) ?_ ?_ ?_
   ·intro d9 f3 a3 d0 hq;have d1:=a3.g;have E0:=E0.trans a3;have a9:=a9.trans a3.g;have a1:=Gm a3.g a1;have a2:=Gm a3.g a2;have a0:=Gm a3.g a0;have a7:=a7.mono a3;refine jP (Er:=Er) a7 (bA (bA (bA (aq (x:=Gq "spool ") (l:=[115,112,111,111,108,32]) (cQ _ _ ⋯)) cS) (aq (x:=Gq " ") (l:=[32]) (cQ _ _ ⋯)))<|ou<|lQ gQ kS (M0<|ba a2) cS)<|(Gj hq).imp λf4 hq f5 b7 f6=>?_;have E0:=b7.e _ E0 fr9;have a9:=a9.trans b7.g;have d1:=d1.trans b7.g;have a1:=Gm b7.g a1;have a2:=Gm b7.g a2;have a0:=Gm b7.g a0;exact d0 f4 f5 _ d1 ⟨rfl,E0,f6⟩ hq
   ·intro d9 f3 a3 d0 hq;have f7:=a3.g;have E0:=E0.trans a3;have a9:=a9.trans a3.g;have a1:=Gm a3.g a1;have a2:=Gm a3.g a2;have a0:=Gm a3.g a0;have a7:=a7.mono a3
    try dsimp only[aD]
    exact d0 e9 d9 _ f7 ⟨rfl,E0,a7⟩ hq
   ·intro f8 f9 j1 c5 iv hq;obtain⟨rfl,E0,g0⟩:=iv;have a9:=a9.trans c5;have a1:=Gm c5 a1;have a2:=Gm c5 a2;have a0:=Gm c5 a0
    try dsimp only
    refine ee (W:=f9) f8 a9 ?_ hq;exact⟨_,rfl,E0,g0⟩
  ·intro g1 j2 j3 e0 iv hq;obtain⟨b4,rfl,E0,a7⟩:=iv;have a1:=Gm e0 a1;have a0:=Gm e0 a0;refine eo (Er:=Er) (f:=BN) (s0:=g1) (Iv:=λ(g2:(List Tx))(e1:Wd)(g3:St)=>∃(b9:Option V),g3=[some b1,some<|.int b0,some b2,some b3,some<|.ref p6,b4,b9,none]/\Ext W0 e1/\Ow isS e1 p6 g2) (dv<|ba a1) (Gj hq) ?_ ?_ ?_
   ·intro j4 d2;have E0:=E0.trans d2;have a0:=Gm d2.g a0;have a7:=a7.mono d2;exact⟨_,rfl,E0,a7⟩
   ·intro j5 j6 j7 j8 g4 j9 k0 k1 g5 c0 iv c6 c1 hq;obtain⟨b9,rfl,E0,b5⟩:=iv;have a0:=Gm g5 a0;have E0:=E0.trans c6;have c0:=c0.trans c6.g;have a0:=Gm c6.g a0;have b5:=b5.mono c6;refine gn (σ':=[some b1,some<|.int b0,some b2,some b3,some<|.ref p6,b4,some g4,none]) ?_;unfold BN at hq;refine jP (Er:=Er) b5 (bA (bA (bA (bA (bA (aq (x:=Gq "tablet ") (l:=[116,97,98,108,101,116,32]) (cQ _ _ ⋯))<|bt (f:=λ(b:Cd)=>b.1) vY<|ba c1) (aq (x:=Gq " ") (l:=[32]) (cQ _ _ ⋯)))<|bt (f:=λ(b:Cd)=>b.2.1) pz<|ba c1) (aq (x:=Gq " ") (l:=[32]) (cQ _ _ ⋯)))<|ou<|bt (f:=λ(b:Cd)=>b.2.2) vZ<|ba c1)<|(Gj hq).imp λg6 hq g7 c7 g8=>?_;have E0:=c7.e _ E0 fr9;have c0:=c0.trans c7.g;have a0:=Gm c7.g a0;have c1:=Gm c7.g c1
    try dsimp only
    refine ee (W:=g7) g6 c0 ?_ hq;exact⟨_,rfl,E0,g8⟩
   ·intro g9 k2 k3 h0 iv hq;obtain⟨b9,rfl,E0,b5⟩:=iv;have a0:=Gm h0 a0;refine eo (Er:=Er) (f:=CP) (s0:=g9) (Iv:=λ(h1:(List Tx))(e3:Wd)(h2:St)=>∃(d3:Option V),h2=[some b1,some<|.int b0,some b2,some b3,some<|.ref p6,b4,b9,d3]/\Ext W0 e3/\Ow isS e3 p6 h1) (dv<|ba a0) (Gj hq) ?_ ?_ ?_
    ·intro k4 e4;have E0:=E0.trans e4;have b5:=b5.mono e4;exact⟨_,rfl,E0,b5⟩
    ·intro k5 k6 k7 k8 h3 k9 l0 l1 l2 c2 iv d4 c8 hq;obtain⟨d3,rfl,E0,c3⟩:=iv;have E0:=E0.trans d4;have c2:=c2.trans d4.g;have c3:=c3.mono d4;refine gn (σ':=[some b1,some<|.int b0,some b2,some b3,some<|.ref p6,b4,b9,some h3]) ?_;unfold CP at hq;refine jP (Er:=Er) c3 (bA (bA (dR (K:=K) gs<|dG (ba c8) af) (aq (x:=Gq " ") (l:=[32]) (cQ _ _ ⋯)))<|zj (K:=K)<|dG (ba c8) af)<|(Gj hq).imp λh4 hq h5 d5 h6=>?_;have E0:=d5.e _ E0 fr9;have c2:=c2.trans d5.g;have c8:=Gm d5.g c8
     try dsimp only
     refine ee (W:=h5) h4 c2 ?_ hq;exact⟨_,rfl,E0,h6⟩
    ·intro l3 l4 l5 l6 iv hq;obtain⟨d3,rfl,E0,c3⟩:=iv;exact aA (Er:=Er) (pN (l:=[10]) (cQ _ _ ⋯)<|nX c3)<|GP hq λl7 hq h7 h8 h9 i0=>hq h7 h8 (E0.trans h9) i0
theorem FD{f:Addr}{fd:GJ}(F:Fun K "_law_sign" "_law_sign" (tp 52) f fd):FnOk P w K mg base CX0 (1) f fd ["_law_cell"] (dY isI (rs isS)<|DX):=by
 have SC:FnScope ["_law_cell","_law_some"] ["_law_cell"] (defScope<|tp 52):=by walk_at "F"
 refine F.ok SC (λvs H Q E h=>?_)<|λZ9 A outer s H vs Q E hr h=>?_;·obtain⟨_,_,_,_,rfl,_⟩:=h;rfl
 ·obtain⟨W0,a5,_,rfl,rfl,a0,Er,hq⟩:=h;cases a0;refine⟨_,(a6 (fh 1 ak)
   (a6 (fh 1<|ag aF (pv 1) ak)
   (ae (ai (av dg (pv 1) (ag aX (pv 0) a8) (λ_ _=>rfl)))))),?_⟩
  have E0:Ext W0 W0:=.refl W0;unfold DX at hq;refine bj <| aR (Er := Er) (aq (x := Gq " !\"#$&'()*+,-./0123456789:;<=>?@ABCDEFGHIJKLMNOPQRSTUVWXYZ[\\]^_`") (l := [32, 33, 34, 35, 36, 38, 39, 40, 41, 42, 43, 44, 45, 46, 47, 48, 49, 50, 51, 52, 53, 54, 55, 56, 57, 58, 59, 60, 61, 62, 63, 64, 65, 66, 67, 68, 69, 70, 71, 72, 73, 74, 75, 76, 77, 78, 79, 80, 81, 82, 83, 84, 85, 86, 87, 88, 89, 90, 91, 92, 93, 94, 95, 96]) (cQ _ _ ⋯)) (λv3 W1 e2 h4 => ?_)
  cases h4;have E0:=E0.trans e2;refine bj<|aR (Er:=Er) (bA (aY (R:=sh isS) (a:=([32,33,34,35,36,38,39,40,41,42,43,44,45,46,47,48,49,50,51,52,53,54,55,56,57,58,59,60,61,62,63,64,65,66,67,68,69,70,71,72,73,74,75,76,77,78,79,80,81,82,83,84,85,86,87,88,89,90,91,92,93,94,95,96]:Tx)) (v:=.str<|sOf ([32,33,34,35,36,38,39,40,41,42,43,44,45,46,47,48,49,50,51,52,53,54,55,56,57,58,59,60,61,62,63,64,65,66,67,68,69,70,71,72,73,74,75,76,77,78,79,80,81,82,83,84,85,86,87,88,89,90,91,92,93,94,95,96]:Tx)) rfl) (aq (x:=Gq "abcdefghijklmnopqrstuvwxyz{|}~\n") (l:=[97,98,99,100,101,102,103,104,105,106,107,108,109,110,111,112,113,114,115,116,117,118,119,120,121,122,123,124,125,126,10]) (cQ _ _ ⋯))) ((Gj hq).imp λy7 hq v8 W5 e6 h9=>?_)
  cases h9;have E0:=E0.trans e6;exact aA (Er:=Er) (dh cS (aE (λ_=>by decide) bO))<|GP hq λa7 hq a1 a2 a3 a4=>hq a1 a2 (E0.trans a3) a4
theorem FE{f:Addr}{fd:GJ}(F:Fun K "_law_spoil" "_law_spoil" (tp 53) f fd){zv:Int->Res Tx}(a2:Cal P w K mg base "_law_sign" ["_law_cell"] (1) (dY isI (rs isS) zv))(a3:mg "len"=none):FnOk P w K mg base CX0 (2) f fd ["_law_text","_law_cell"] (cB isS isI (rs isS)<|DY zv):=by
 have SC:FnScope ["_law_text","_law_cell","_law_at_here","_law_sign_here","_law_twin"] ["_law_text","_law_cell"] (defScope<|tp 53):=by walk_at "F"
 refine F.ok SC (λvs H Q E h=>?_)<|λZ9 A outer s H vs Q E hr h=>?_;·obtain⟨_,_,_,_,_,_,rfl,_⟩:=h;rfl
 ·obtain⟨W0,d7,a1,_,_,rfl,rfl,a7,a9,Er,hq⟩:=h;cases a7;cases a9
  refine⟨_,(a6 (fh 2 (ag aX (ag cP (pv 1) a8) (ag cv (aj (bP (K:=K) rfl) (by rfl) a3 HH<|a4 (pv 0) a5) a8)))
   (a6 (fh 3<|eK a2<|a4 (ag cP (pv 1) a8) a5)
   (a6 (bq (aG cK (ag aX (pv 1) a8) a8<|aH _) (ae<|ai<|ag aF (ag aF (cw eN (pv 0) dH<|cC<|pv 2)<|pv 3)<|cw eN (pv 0) (cC<|pv 2) dH) az)
   (a6 (bq (aG cK (ag aX (pv 1) a8) a8<|aH _) (ae<|ai<|ag aF (cw eN (pv 0) dH<|cC<|pv 2)<|cw eN (pv 0) (cC<|ag cv (pv 2) a8) dH) az)
   (a6 (bq (aG cK (ag aX (pv 1) a8) a8<|aH _) (ae<|ai<|ag aF (ag aF (cw eN (pv 0) dH<|cC<|pv 2)<|pv 3)<|cw eN (pv 0) (cC<|ag cv (pv 2) a8) dH) az)
   (a6 (bq (aG cK (ag aX (pv 1) a8) a8<|aH _) (ae<|ai<|ag aF (ag aF (cw eN (pv 0) dH<|cC<|pv 2)<|cw eN (pv 0) (cC<|pv 2)<|cC<|ag cv (pv 2) a8)<|cw eN (pv 0) (cC<|pv 2) dH) az)
   (a6 (fh 4<|ag aF (cw eN (pv 0) (cC<|ag cv (pv 2) a8)<|cC<|ag cv (pv 2) a8)<|cw eN (pv 0) (cC<|pv 2)<|cC<|ag cv (pv 2) a8)
   (ae (ai (ag aF (ag aF (cw eN (pv 0) dH (cC (pv 2))) (pv 4)) (cw eN (pv 0) (cC (ag cv (pv 2) a8)) dH))))))))))),?_⟩
  have E0:Ext W0 W0:=.refl W0;unfold DY at hq;refine bj<|aR (Er:=Er) (lF (aE (λ_=>⟨by decide,by decide⟩) bO)<|bG (o9 cS) af) ((Gj hq).imp λy5 hq v6 W1 e2 h7=>?_)
  cases h7;have E0:=E0.trans e2;refine bj<|aR (Er:=Er) (dz (aE (λ_=>⟨by decide,by decide⟩) bO)) ((Gj hq).imp λd8 hq d9 W8 e9 b0=>?_)
  cases b0;have E0:=E0.trans e9;refine br (Er:=Er) (aI (dQ (aE (λ_=>by decide) bO) af))<|λe0 b1=>?_;have E0:=E0.trans b1;by_cases a0:(decide<|(a1%5)=(0:Int))=true
  ·rw[Z1 a0]at hq ⊢;exact aA (Er:=Er) (bA (bA (dM cS fV<|eJ bO) cS)<|dM cS (eJ bO) fV)<|GP hq λe1 hq b2 b3 b4 b5=>hq b2 b3 (E0.trans b4) b5
  ·rw[Z2 a0]at hq ⊢
   try dsimp only[aD]
   refine br (Er:=Er) (aI (dQ (aE (λ_=>by decide) bO) af))<|λe3 b6=>?_;have E0:=E0.trans b6;by_cases a0:(decide<|(a1%5)=(1:Int))=true
   ·rw[Z1 a0]at hq ⊢;exact aA (Er:=Er) (bA (dM cS fV<|eJ bO)<|dM cS (eJ<|bG bO af) fV)<|GP hq λe4 hq b7 b8 b9 c0=>hq b7 b8 (E0.trans b9) c0
   ·rw[Z2 a0]at hq ⊢
    try dsimp only[aD]
    refine br (Er:=Er) (aI (dQ (aE (λ_=>by decide) bO) af))<|λe5 c1=>?_;have E0:=E0.trans c1;by_cases a0:(decide<|(a1%5)=(2:Int))=true
    ·rw[Z1 a0]at hq ⊢;exact aA (Er:=Er) (bA (bA (dM cS fV<|eJ bO) cS)<|dM cS (eJ<|bG bO af) fV)<|GP hq λe6 hq c2 c3 c4 c5=>hq c2 c3 (E0.trans c4) c5
    ·rw[Z2 a0]at hq ⊢
     try dsimp only[aD]
     refine br (Er:=Er) (aI (dQ (aE (λ_=>by decide) bO) af))<|λe7 c6=>?_;have E0:=E0.trans c6;by_cases a0:(decide<|(a1%5)=(3:Int))=true
     ·rw[Z1 a0]at hq ⊢;exact aA (Er:=Er) (bA (bA (dM cS fV<|eJ bO)<|dM cS (eJ bO)<|eJ<|bG bO af)<|dM cS (eJ bO) fV)<|GP hq λe8 hq c7 c8 c9 d0=>hq c7 c8 (E0.trans c9) d0
     ·rw[Z2 a0]at hq ⊢
      try dsimp only[aD]
      refine bj<|aR (Er:=Er) (bA (dM cS (eJ<|bG bO af)<|eJ<|bG bO af)<|dM cS (eJ bO)<|eJ<|bG bO af) ((Gj hq).imp λf0 hq f1 f2 d1 d2=>?_)
      cases d2;have E0:=E0.trans d1;exact aA (Er:=Er) (bA (bA (dM cS fV<|eJ bO) cS)<|dM cS (eJ<|bG bO af) fV)<|GP hq λf3 hq d3 d4 d5 d6=>hq d3 d4 (E0.trans d5) d6
theorem FF{f:Addr}{fd:GJ}(F:Fun K "_law_turns" "_law_turns" (tp 51) f fd){lX:Int->Int->Int->Res (List Int)}(a3:Cal P w K mg base "_law_row" ["_law_cell","_law_many","_law_base"] (1) (jO isI isI isI (ro isI) lX)):FnOk P w K mg base CX0 (2) f fd ["_law_cell","_law_many"] (cB isI isI (rs isS)<|DZ lX):=by
 have SC:FnScope ["_law_cell","_law_many"] ["_law_cell","_law_many"] (defScope<|tp 51):=by walk_at "F"
 refine F.ok SC (λvs H Q E h=>?_)<|λZ9 A outer s H vs Q E hr h=>?_;·obtain⟨_,_,_,_,_,_,rfl,_⟩:=h;rfl
 ·obtain⟨W0,a0,a1,_,_,rfl,rfl,a7,b0,Er,hq⟩:=h;cases a7;cases b0;refine⟨_,(a6 (bq (aG cK (ag aX (pv 0) a8) a8<|aH _) (ae<|ai<|ag lu (av dg ak (ag aX (ag cP (pv 0) a8) a8)<|λ_ _=>rfl)<|pv 1) az)
   (ae (ai (wa (K:=K) rfl ak (a4 (d5 (N:=["_law_d"]) (cap:=[none]) (fu rfl ⋯ rfl ⋯ (by rfl) (by rfl)) rfl (cy (K:=K) rfl (eK a3 (a4 (ag cP (pv 0) a8) (a4 (pv 1) (a4 a8 a5))))) (λ_ _ _ _=>(aJ (i:=0) (show H9 (["_law_d"]:List Str) by decide +kernel) rfl (by walk_at "L"))) (λ_ _ _ _=>cn) (λ_ _ _ _=>(av dg ak (pv 0) (λ_ _=>rfl)))) a5))))),?_⟩
  have E0:Ext W0 W0:=.refl W0;rw[show L2.start ["_law_cell","_law_many"] [.int a0,.int a1]=[some (.int a0),some<|.int a1]from rfl];unfold DZ at hq;refine br (Er:=Er) (aI (dQ (aE (λ_=>by decide) bO) af))<|λW1 e2=>?_;have E0:=E0.trans e2;by_cases a2:(decide<|(a0%7)=(3:Int))=true
  ·rw[Z1 a2]at hq ⊢;exact aA (Er:=Er) (rP (dh (aq (x:=Gq "fbi") (l:=[102,98,105]) (cQ _ _ ⋯)) (aE (λ_=>by decide) (aE (λ_=>⟨by decide,by decide⟩) bO))) bO)<|GP hq λy4 hq v5 W6 e7 h8=>hq v5 W6 (E0.trans e7) h8
  ·rw[Z2 a2]at hq ⊢
   try dsimp only[aD]
   exact aA (Er:=Er) (yQ (cQ _ _ ⋯) (JB (cF (dv (HN (gm (aE (λ_=>⟨by decide,by decide⟩) bO) bO af))) λb7 a9 b8 b9 b1 c0 b2=>by
    cases b1;refine gn ?_;exact⟨by simp[Keep,bI],((dh (aq (x:=Gq "fbi") (l:=[102,98,105]) (cQ _ _ ⋯)) bO):EV Er _ [some (.int a9)] _ _ _) _ (.refl _) _ b2⟩))) (GP hq λc1 hq b3 b4 b5 b6=>hq b3 b4 (E0.trans b5) b6)
theorem FG{f:Addr}{fd:GJ}(F:Fun K "_law_rowtext" "_law_rowtext" (tp 54) f fd){zw:Tx->Int->Res Tx}{zx:Int->Int->Res Tx}(a2:Cal P w K mg base "_law_spoil" ["_law_text","_law_cell"] (2) (cB isS isI (rs isS) zw))(a3:Cal P w K mg base "_law_turns" ["_law_cell","_law_many"] (2) (cB isI isI (rs isS) zx)):FnOk P w K mg base CX0 (3) f fd ["_law_cell","_law_width"] (cB isI isI (rs isS)<|E3 zw zx):=by
 have SC:FnScope ["_law_cell","_law_width"] ["_law_cell","_law_width"] (defScope<|tp 54):=by walk_at "F"
 refine F.ok SC (λvs H Q E h=>?_)<|λZ9 A outer s H vs Q E hr h=>?_;·obtain⟨_,_,_,_,_,_,rfl,_⟩:=h;rfl
 ·obtain⟨W0,a1,b9,_,_,rfl,rfl,a7,a9,Er,hq⟩:=h;cases a7;cases a9;refine⟨_,(a6 (bq (aG cK (ag aX (pv 0) a8) a8<|aH _) (ae<|ai<|eK a2<|a4 (cw eN ak dH<|cC<|pv 1)<|a4 (ag cP (pv 0) a8) a5) az)
   (a6 (bq (aG cK (ag aX (pv 0) a8) a8<|aH _) (ae<|ai<|ag lu (av dg ak (ag aX (ag cP (pv 0) a8) a8)<|λ_ _=>rfl)<|pv 1) az)
   (ae (ai (eK a3 (a4 (ag cP (pv 0) a8) (a4 (pv 1) a5))))))),?_⟩
  have E0:Ext W0 W0:=.refl W0;unfold E3 at hq;refine br (Er:=Er) (aI (dQ (aE (λ_=>by decide) bO) af))<|λW1 e2=>?_;have E0:=E0.trans e2;by_cases a0:(decide<|(a1%9)=(8:Int))=true
  ·rw[Z1 a0]at hq ⊢;exact aA (Er:=Er) (bM (dM (aq (x:=Gq "fbibfbif") (l:=[102,98,105,98,102,98,105,102]) (cQ _ _ ⋯)) fV<|eJ bO) (aE (λ_=>⟨by decide,by decide⟩) bO))<|GP hq λy4 hq v5 W6 e7 h8=>hq v5 W6 (E0.trans e7) h8
  ·rw[Z2 a0]at hq ⊢
   try dsimp only[aD]
   refine br (Er:=Er) (aI (dQ (aE (λ_=>by decide) bO) af))<|λW9 b0=>?_;have E0:=E0.trans b0;by_cases a0:(decide<|(a1%9)=(7:Int))=true
   ·rw[Z1 a0]at hq ⊢;exact aA (Er:=Er) (rP (dh (aq (x:=Gq "fbi") (l:=[102,98,105]) (cQ _ _ ⋯)) (aE (λ_=>by decide) (aE (λ_=>⟨by decide,by decide⟩) bO))) bO)<|GP hq λc0 hq b1 b2 b3 b4=>hq b1 b2 (E0.trans b3) b4
   ·rw[Z2 a0]at hq ⊢
    try dsimp only[aD]
    exact aA (Er:=Er) (bM (aE (λ_=>⟨by decide,by decide⟩) bO) bO)<|GP hq λc1 hq b5 b6 b7 b8=>hq b5 b6 (E0.trans b7) b8
theorem FH{f:Addr}{fd:GJ}(F:Fun K "_law_deed" "_law_deed" (tp 56) f fd){zy:Int->Int->Res Tx}(b1:Cal P w K mg base "_law_rowtext" ["_law_cell","_law_width"] (3) (cB isI isI (rs isS) zy)):FnOk P w K mg base CX0 (4) f fd ["_law_cell","_law_width"] (cB isI isI (rs<|isU K)<|E6 zy):=by
 have SC:FnScope ["_law_cell","_law_width","_law_at_here"] ["_law_cell","_law_width"] (defScope<|tp 56):=by walk_at "F"
 refine F.ok SC (λvs H Q E h=>?_)<|λZ9 A outer s H vs Q E hr h=>?_;·obtain⟨_,_,_,_,_,_,rfl,_⟩:=h;rfl
 ·obtain⟨W0,a2,b2,_,_,rfl,rfl,b3,b4,Er,hq⟩:=h;cases b3;cases b4;refine⟨_,(a6 (bq (aG mK (ag aX (pv 0) a8) a8<|aH _) (ae<|ai<|aT<|a4 ak<|a4 (eK b1<|a4 (ag cP (pv 0) a8)<|a4 (pv 1) a5) a5) az)
   (a6 (bq (aG cK (ag aX (pv 0) a8) a8<|aH _) (a6 (fh 2<|ag aX (ag cP (pv 0) a8)<|pv 1)
   (a6 (bq (aG cK (ag aX (ag cP (pv 0) a8) a8) a8<|aH _) (ae<|fh 2<|av (bz (K:=K) rfl) (bR<|a4 (pv 1)<|a4 (ag gV a8 a8)<|a4 (ag vj a8 a8) a5) (ag aX (ag cP (pv 0) a8) a8)<|λ_ _=>rfl) az)
   (ae (ai (aT (a4 ak (a4 (pv 2) a5))))))) az)
   (a6 (bq (aG cK (ag aX (pv 0) a8) a8<|aH _) (ae<|ai<|aT<|a4 ak<|a4 a8 a5) az)
   (ae (ai (aT (a4 ak (a4 a8 a5)))))))),?_⟩
  have E0:Ext W0 W0:=.refl W0;unfold E6 at hq;refine br (Er:=Er) (aI (eO (aE (λ_=>by decide) bO) af))<|λW1 e2=>?_;have E0:=E0.trans e2;by_cases a0:(decide<|(a2%7)<(3:Int))=true
  ·rw[Z1 a0]at hq ⊢;exact aA (Er:=Er) (di (K:=K) (fk cR cR) (aZ (K:=K) (aq (x:=Gq "row") (l:=[114,111,119]) (cQ _ _ ⋯)) (bM (aE (λ_=>⟨by decide,by decide⟩) bO) bO)))<|GP hq λy5 hq v6 W7 e8 h9=>hq v6 W7 (E0.trans e8) h9
  ·rw[Z2 a0]at hq ⊢
   try dsimp only[aD]
   refine br (Er:=Er) (aI (dQ (aE (λ_=>by decide) bO) af))<|λe0 b5=>?_;have E0:=E0.trans b5;by_cases a0:(decide<|(a2%7)=(3:Int))=true
   ·rw[Z1 a0]at hq ⊢;refine bj<|aR (Er:=Er) (lF (aE (λ_=>⟨by decide,by decide⟩) bO) bO) ((Gj hq).imp λb6 hq e1 e3 b7 b8=>?_)
    cases b8;have E0:=E0.trans b7;refine lJ (Er:=Er) (Iv:=λ(b9:Int)(c0:Wd)(c1:St)=>c1=[some (.int a2),some<|.int b2,some<|.int b9]/\Ext W0 c0) (aI (dQ (aE (λ_=>by decide) (aE (λ_=>⟨by decide,by decide⟩) bO)) af)) (Gj hq) ?_ ?_ ?_
    ·intro a9 c2 a1 a3 hq;have a7:=a1.g;have E0:=E0.trans a1;refine aR (Er:=Er) (fc (JB (cZ (bf bO (bf (bG af af) (bf (rR (r:=100000000000000000000) ⋯ ⋯)<|cY (R:=isI)))))) (aE (λ_=>by decide) (aE (λ_=>⟨by decide,by decide⟩) bO)))<|(Gj hq).imp λc3 hq e4 c4 b0 c5=>?_;cases c5;have E0:=E0.trans b0;have a7:=a7.trans b0.g;exact a3 c3 c4 _ a7 ⟨rfl,E0⟩ hq
    ·intro a9 c2 a1 a3 hq;have c6:=a1.g;have E0:=E0.trans a1
     try dsimp only[aD]
     exact a3 b6 a9 _ c6 ⟨rfl,E0⟩ hq
    ·intro e5 e6 e7 e9 iv hq;obtain⟨rfl,E0⟩:=iv;exact aA (Er:=Er) (di (K:=K) (fk cR pH) (aZ (K:=K) (aq (x:=Gq "flip") (l:=[102,108,105,112]) (cQ _ _ ⋯)) bO))<|λc7 c8 c9 d0=>hq c7 c8 (E0.trans c9) d0
   ·rw[Z2 a0]at hq ⊢
    try dsimp only[aD]
    refine br (Er:=Er) (aI (dQ (aE (λ_=>by decide) bO) af))<|λf0 d1=>?_;have E0:=E0.trans d1;by_cases a0:(decide<|(a2%7)=(6:Int))=true
    ·rw[Z1 a0]at hq ⊢;exact aA (Er:=Er) (di (K:=K) (fk cR pH) (aZ (K:=K) (aq (x:=Gq "redo") (l:=[114,101,100,111]) (cQ _ _ ⋯)) af))<|λd2 d3 d4 d5=>hq d2 d3 (E0.trans d4) d5
    ·rw[Z2 a0]at hq ⊢
     try dsimp only[aD]
     exact aA (Er:=Er) (di (K:=K) (fk cR pH) (aZ (K:=K) (aq (x:=Gq "undo") (l:=[117,110,100,111]) (cQ _ _ ⋯)) af))<|λd6 d7 d8 d9=>hq d6 d7 (E0.trans d8) d9
theorem FI{f:Addr}{fd:GJ}(F:Fun K "_law_turnover" "_law_turnover" (tp 55) f fd):FnOk P w K mg base CX0 (1) f fd ["_law_card_here"] (dY (qA K) (rs<|qA K)<|E7):=by
 have SC:FnScope ["_law_card_here","_law_holes_here"] ["_law_card_here"] (defScope<|tp 55):=by walk_at "F"
 refine F.ok SC (λvs H Q E h=>?_)<|λZ9 A outer s H vs Q E hr h=>?_;·obtain⟨_,_,_,_,rfl,_⟩:=h;rfl
 ·obtain⟨W0,a9,b0,rfl,rfl,a0,Er,hq⟩:=h;refine⟨_,(a6 (fh 1<|av (aw (K:=K) rfl) (pv 0) a8<|λ_ _=>rfl)
   (ae (ai (aT (a4 (av dg ak (n5 (K:=K) rfl rfl ak (a4 (av (aw (K:=K) rfl) (pv 0) a8 (λ_ _=>rfl)) a5)) (λ_ _=>rfl)) (a4 (ag aF (ag aF (ag aF (av dg (pv 1) a8 (λ_ _=>rfl)) (av dg (pv 1) a8 (λ_ _=>rfl))) (av dg (pv 1) a8 (λ_ _=>rfl))) (av dg (pv 1) a8 (λ_ _=>rfl))) (a4 (ag aX (ag gV a8 (av (aw (K:=K) rfl) (pv 0) a8 (λ_ _=>rfl))) a8) a5))))))),?_⟩
  have E0:Ext W0 W0:=.refl W0;unfold E7 at hq;refine bj<|aR (Er:=Er) (bt (f:=λ(b:Cd)=>b.2.1) pz<|ba a0) (λv3 W1 e2 h4=>?_)
  cases h4;have E0:=E0.trans e2;have a0:=Gm e2.g a0;exact aA (Er:=Er) (fB (K:=K) (dh (aq (x:=Gq "ZS") (l:=[90,83]) (cQ _ _ ⋯)) (rQ (aq (x:=Gq "SZ") (l:=[83,90]) (cQ _ _ ⋯))<|bt (f:=λ(b:Cd)=>b.1) vY<|ba a0)) (bA (bA (bA (dh cS af)<|dh cS af)<|dh cS af)<|dh cS af) (aE (λ_=>by decide)<|bG af<|bt (f:=λ(b:Cd)=>b.2.2) vZ<|ba a0))<|GP hq λb1 hq a1 a2 a3 a7=>hq a1 a2 (E0.trans a3) a7
theorem FJ{f:Addr}{fd:GJ}(F:Fun K "_law_go" "_law_go" (tp 57) f fd):FnOk P w K mg base CX0 (1) f fd ["_law_turn"] (dY isS (rs isI)<|E8):=by
 have SC:FnScope ["_law_turn"] ["_law_turn"] (defScope<|tp 57):=by walk_at "F"
 refine F.ok SC (λvs H Q E h=>?_)<|λZ9 A outer s H vs Q E hr h=>?_;·obtain⟨_,_,_,_,rfl,_⟩:=h;rfl
 ·obtain⟨W0,a1,_,rfl,rfl,a0,Er,hq⟩:=h;cases a0;refine⟨_,(ae<|ai<|ag gV (n5 (K:=K) rfl rfl ak<|a4 (pv 0) a5) a8),?_⟩;have E0:Ext W0 W0:=.refl W0;unfold E8 at hq;exact aA (Er:=Er) (bG (rQ (aq (x:=Gq "bif") (l:=[98,105,102]) (cQ _ _ ⋯)) cS) af)<|GP hq λy2 hq v3 W4 e5 h6=>hq v3 W4 (E0.trans e5) h6
theorem FK{f:Addr}{fd:GJ}(F:Fun K "_law_twist" "_law_twist" (tp 59) f fd){qm:Tx->Res Int}(a1:Cal P w K mg base "_law_go" ["_law_turn"] (1) (dY isS (rs isI) qm)):FnOk P w K mg base CX0 (2) f fd ["_law_card_here","_law_turn"] (cB (qA K) isS (rs isI)<|E9 qm):=by
 have SC:FnScope ["_law_card_here","_law_turn"] ["_law_card_here","_law_turn"] (defScope<|tp 59):=by walk_at "F"
 refine F.ok SC (λvs H Q E h=>?_)<|λZ9 A outer s H vs Q E hr h=>?_;·obtain⟨_,_,_,_,_,_,rfl,_⟩:=h;rfl
 ·obtain⟨W0,a3,b3,b4,_,rfl,rfl,a0,a7,Er,hq⟩:=h;cases a7;refine⟨_,(a6 (bq (aG cK (av (aw (K:=K) rfl) (pv 0) a8<|λ_ _=>rfl) ak<|aH _) (ae<|ai<|eK a1<|a4 (pv 1) a5) az)
   (ae (ai (ag gV a8 (eK a1 (a4 (pv 1) a5)))))),?_⟩
  have E0:Ext W0 W0:=.refl W0;unfold E9 at hq;refine br (Er:=Er) (aI (fL (bt (f:=λ(b:Cd)=>b.1) vY<|ba a0) (aq (x:=Gq "S") (l:=[83]) (cQ _ _ ⋯))))<|λW1 e2=>?_;have E0:=E0.trans e2;have a0:=Gm e2.g a0;by_cases a2:(decide<|a3.1=([83]:Tx))=true
  ·rw[Z1 a2]at hq ⊢;exact aA (Er:=Er) (dz cS)<|GP hq λy3 hq v4 W5 e6 h7=>hq v4 W5 (E0.trans e6) h7
  ·rw[Z2 a2]at hq ⊢
   try dsimp only[aD]
   exact aA (Er:=Er) (bG af<|dz cS)<|GP hq λy9 hq a9 b0 b1 b2=>hq a9 b0 (E0.trans b1) b2
theorem FL{f:Addr}{fd:GJ}(F:Fun K "_law_behind" "_law_behind" (tp 58) f fd){qm:Tx->Res Int}(a1:Cal P w K mg base "_law_go" ["_law_turn"] (1) (dY isS (rs isI) qm)):FnOk P w K mg base CX0 (2) f fd ["_law_card_here","_law_turn"] (cB (qA K) isS (rs<|qA K)<|Ea qm):=by
 have SC:FnScope ["_law_card_here","_law_turn"] ["_law_card_here","_law_turn"] (defScope<|tp 58):=by walk_at "F"
 refine F.ok SC (λvs H Q E h=>?_)<|λZ9 A outer s H vs Q E hr h=>?_;·obtain⟨_,_,_,_,_,_,rfl,_⟩:=h;rfl
 ·obtain⟨W0,a3,a6,a7,_,rfl,rfl,a0,a2,Er,hq⟩:=h;cases a2;refine⟨_,(ae<|ai<|aT<|a4 (av (aw (K:=K) rfl) (pv 0) a8<|λ_ _=>rfl)<|a4 (av (aw (K:=K) rfl) (pv 0) a8<|λ_ _=>rfl)<|a4 (ag aX (ag cv (av (aw (K:=K) rfl) (pv 0) a8<|λ_ _=>rfl)<|eK a1<|a4 (pv 1) a5) a8) a5),?_⟩;have E0:Ext W0 W0:=.refl W0;unfold Ea at hq;exact aA (Er:=Er) (fB (K:=K) (bt (f:=λ(b:Cd)=>b.1) vY<|ba a0) (bt (f:=λ(b:Cd)=>b.2.1) pz<|ba a0) (aE (λ_=>by decide)<|bG (bt (f:=λ(b:Cd)=>b.2.2) vZ<|ba a0)<|dz cS))<|GP hq λy4 hq v5 W6 e7 h8=>hq v5 W6 (E0.trans e7) h8
theorem FN{f:Addr}{fd:GJ}(F:Fun K "_law_after" "_law_after" (tp 60) f fd){nv:Cd->Tx->Res Int}{yg:Cd->Tx->Res Cd}(f7:Cal P w K mg base "_law_twist" ["_law_card_here","_law_turn"] (2) (cB (qA K) isS (rs isI) nv))(f8:Cal P w K mg base "_law_behind" ["_law_card_here","_law_turn"] (2) (cB (qA K) isS (rs<|qA K) yg))(e8:mg "abs"=none)(f9:mg "dict"=none)(g0:mg "int"=none)(d2:mg "len"=none)(e9:mg "max"=none)(g1:mg "min"=none)(c8:mg "zip"=none):FnOk P w K mg base CX0 (3) f fd ["_law_state","_law_row_here","_law_most_here"] (jO (kq K) isS isI (rs<|isEi isS<|kq K)<|Eb nv yg):=by
 have SC:FnScope ["_law_state","_law_row_here","_law_most_here","_law_cards","_law_now","_law_far","_law_left","_law_card_here","_law_turn","_law_colour"] ["_law_state","_law_row_here","_law_most_here"] (defScope<|tp 60):=by walk_at "F"
 refine F.ok SC (λvs H Q E h=>?_)<|λZ9 A outer s H vs Q E hr h=>?_;·obtain⟨_,_,_,_,_,_,_,_,rfl,_⟩:=h;rfl
 ·obtain⟨W0,g2,b8,b9,c0,_,_,rfl,rfl,g3,g4,g5,Er,hq⟩:=h;cases g4;cases g5;refine⟨_,(a6 (gU (pv 0)<|cD (K:=K) (n:=4) rfl rfl<|au (gG 3)<|au (gG 4)<|au (gG 5)<|au (gG 6) cm)
   (a6 (bq (N4 (l6 (aG A0 (aj (bP (K:=K) rfl) (by rfl) d2 HH<|a4 (pv 1) a5) (aj (bP (K:=K) rfl) (by rfl) d2 HH<|a4 (pv 3) a5)<|aH _) (jF (aG oQ (aj (bP (K:=K) rfl) (by rfl) d2 HH (a4 (d5 (N:=["_law_turn"]) (cap:=[none]) (fu rfl ⋯ rfl ⋯ (by rfl) (by rfl)) rfl (iS<|pv 1) (λ_ _ _ _=>(aJ (i:=0) (show H9 (["_law_turn"]:List Str) by decide +kernel) rfl (by walk_at "L"))) (λ_ _ _ _=>(kM (aG nK (pv 0) ak (by with_unfolding_all rfl))))<|λ_ _ _ _=>(pv 0)) a5)) a8<|aH _)))) (ae<|ai ak) az)
   (a6 (dP (i:=4) SC.nd rfl (by walk_at "L") (N:=["_law_one","_law_card_here","_law_turn"]) (cap:=[none,none,none]) (fu rfl ⋯ rfl ⋯ (by rfl) (by rfl)) rfl (rM (K:=K) rfl rfl c8<|a4 (pv 4)<|a4 (pv 3)<|a4 (pv 1) a5) (λ_ _ _ _=>(cD (K:=K) (n:=3) rfl rfl (au (aJ (i:=0) (show H9 (["_law_one","_law_card_here","_law_turn"]:List Str) by decide +kernel) rfl (by walk_at "L")) (au (aJ (i:=1) (show H9 (["_law_one","_law_card_here","_law_turn"]:List Str) by decide +kernel) rfl (by walk_at "L")) (au (aJ (i:=2) (show H9 (["_law_one","_law_card_here","_law_turn"]:List Str) by decide +kernel) rfl (by walk_at "L")) cm))))) (λ_ _ _ _=>cn)<|λ_ _ _ _=>(ag cv (pv 0)<|eK f7<|a4 (pv 1)<|a4 (pv 2) a5))
   (a6 (bq (aG oQ (aj (tQ (K:=K) rfl rfl) (by rfl) e9 JU (a4 (d5 (N:=["_law_one"]) (cap:=[none]) (fu rfl ⋯ rfl ⋯ (by rfl) (by rfl)) rfl (cy (K:=K) rfl<|pv 4) (λ_ _ _ _=>(aJ (i:=0) (show H9 (["_law_one"]:List Str) by decide +kernel) rfl (by walk_at "L"))) (λ_ _ _ _=>cn) (λ_ _ _ _=>(aj gW (by rfl) e8 Jr<|a4 (pv 0) a5))) a5)) (pv 2)<|aH _) (ae<|ai ak) az)
   (a6 (fh 6 (bF gy (by rfl) f9 Jj<|a4 (pv 6) a5))
   (a6 (dO HG rfl (fA (K:=K) rfl rfl c8<|a4 (pv 3)<|a4 (pv 1) a5) (cD (K:=K) (n:=2) rfl rfl<|au (gG 7)<|au (gG 8) cm) (ae (dO HG rfl (iS<|av (aw (K:=K) rfl) (pv 7) a8<|λ_ _=>rfl) (gG 9) (ae (jd (dZ hr) (pv 6) (pv 9) (ag cv (ag gV (hG (dZ hr) (pv 6) (pv 9) a8 ⟨rfl,rfl,rfl,rfl⟩) a8) (bF mL (by rfl) g0 JT<|a4 (eM cK (pv 8) ak<|aH _) a5)) rfl)))))
   (a6 (sy (i:=6) (bq (aG mK (aj (uA (K:=K) rfl rfl) (by rfl) g1 MG (a4 (d5 (N:=["_law_colour","_law_left"]) (cap:=[none,some 6]) (fu rfl ⋯ rfl ⋯ (by rfl) (by rfl)) rfl (wX<|pv 6) (λ_ _ _ _=>(aJ (i:=0) (show H9 (["_law_colour","_law_left"]:List Str) by decide +kernel) rfl (by walk_at "L"))) (λ_ _ _ _=>cn)<|λ_ _ _ _=>(nR (dZ hr) (pv 1) (pv 0)<|λ_ _=>rfl)) a5)) a8<|aH _) (ae<|ai ak) az))
   (a6 (dP (i:=5) SC.nd rfl (by walk_at "L") (N:=["_law_one","_law_other"]) (cap:=[none,none]) (fu rfl ⋯ rfl ⋯ (by rfl) (by rfl)) rfl (fA (K:=K) rfl rfl c8<|a4 (pv 5)<|a4 (pv 4) a5) (λ_ _ _ _=>(cD (K:=K) (n:=2) rfl rfl (au (aJ (i:=0) (show H9 (["_law_one","_law_other"]:List Str) by decide +kernel) rfl (by walk_at "L")) (au (aJ (i:=1) (show H9 (["_law_one","_law_other"]:List Str) by decide +kernel) rfl (by walk_at "L")) cm)))) (λ_ _ _ _=>cn) (λ_ _ _ _=>(aj (jJ rfl) (by rfl) e9 JU (a4 (pv 0) (a4 (aj gW (by rfl) e8 Jr<|a4 (pv 1) a5) a5)))))
   (ae (ai (aT (a4 (d5 (N:=["_law_card_here","_law_turn"]) (cap:=[none,none]) (fu rfl ⋯ rfl ⋯ (by rfl) (by rfl)) rfl (fA (K:=K) rfl rfl c8 (a4 (pv 3) (a4 (pv 1) a5))) (λ_ _ _ _=>(cD (K:=K) (n:=2) rfl rfl (au (aJ (i:=0) (show H9 (["_law_card_here","_law_turn"]:List Str) by decide +kernel) rfl (by walk_at "L")) (au (aJ (i:=1) (show H9 (["_law_card_here","_law_turn"]:List Str) by decide +kernel) rfl (by walk_at "L")) cm)))) (λ_ _ _ _=>cn) (λ_ _ _ _=>(eK f8 (a4 (pv 0) (a4 (pv 1) a5))))) (a4 (pv 4) (a4 (pv 5) (a4 (pv 6) a5))))))))))))))),?_⟩
  have E0:Ext W0 W0:=.refl W0;rw[show L2.start ["_law_state","_law_row_here","_law_most_here","_law_cards","_law_now","_law_far","_law_left","_law_card_here","_law_turn","_law_colour"] [c0,.str<|sOf b8,.int b9]=[some c0,some<|.str<|sOf b8,some<|.int b9,none,none,none,none,none,none,none]from rfl];unfold Eb at hq;refine gq (Er:=Er) (ba g3)<|λv1 W2 e3 h4=>?_;have E0:=E0.trans e3;refine EA h4 λv5 v7 v9 n8 h6 h8 a0 b0=>?_;refine br (Er:=Er) (pw (aI<|AR (o9 cS)<|ff<|Jl<|ba h6) (aI (eO (ff (JB (pV (j0 cS) λn9 d3 o0 o1 g6 o2 g7=>by
   cases g6;refine gn ?_;refine⟨by simp[Keep,bI],((aI (tX cS (aq (x:=Gq "fbi") (l:=[102,98,105]) (cQ _ _ ⋯)))):TV Er _ [some (.str<|sOf d3)] _ _) _ (.refl _) _ (GP (P:=λd4=>(if d4=true then Gr (some d3)else Gr none:Res (Option Tx)).OkE Er _) (Gj g7) λd4 f0 g8 d6=>?_)⟩;cases d4 with
   |false=>exact f0 none _ d6 trivial
   |true=>
    rw[Z1 rfl];refine EV.go (Er:=Er) (Y:=[some (.str (sOf d3))]) (W1:=g8) d6 cS ?_;exact λg9 o3 h0 h1=>f0 (some g9) _ (d6.trans h0) h1))) af))) ((Gj hq).imp λh2 hq o4 c1=>?_)
  have E0:=E0.trans c1;have h6:=Gm c1.g h6;have h8:=Gm c1.g h8;have a0:=Gm c1.g a0;have b0:=Gm c1.g b0;by_cases a7:h2=true
  ·rw[Z1 a7]at hq ⊢;exact aA (Er:=Er) (qX (R1:=isS) (R2:=(kq K)) (aq (x:=Gq "BadRow") (l:=[66,97,100,82,111,119]) (cQ _ _ ⋯)))<|λh3 h5 h7 h9=>hq h3 h5 (E0.trans h7) h9
  ·rw[Z2 a7]at hq ⊢
   try dsimp only[aD]
   refine bj<|aR (Er:=Er) (HN (cF (rV (eP<|ba h8) (eP<|ba h6)<|hW cS) λo5 f1 o6 o7 i0 o8 i1=>by
    refine pA i0 λp0 i2 p1 i3 i6 i7=>?_;cases i3;cases i7;exact⟨by simp[Keep,bI],((bG bO (bM (ba i6) cS)):EV Er _ [some (.int f1.1),some i2,some (.str (sOf f1.2.2))] _ _ _) _ (.refl _) _ i1⟩)) ((Gj hq).imp λp2 hq d7 p3 c9 a1=>?_)
   have E0:=E0.trans c9;have h6:=Gm c9.g h6;have a0:=Gm c9.g a0;have b0:=Gm c9.g b0;refine br (Er:=Er) (aI (eO (B1 (JB (cF (dv<|ba a1) λp4 i8 p5 p6 i9 p7 j1=>by
    cases i9;refine gn ?_;exact⟨by simp[Keep,bI],((lG bO):EV Er _ [some (.int i8)] _ _ _) _ (.refl _) _ j1⟩))) bO)) ((Gj hq).imp λj2 hq p8 c2=>?_)
   have E0:=E0.trans c2;have h6:=Gm c2.g h6;have a0:=Gm c2.g a0;have b0:=Gm c2.g b0;have a1:=Gm c2.g a1;by_cases a7:j2=true
   ·rw[Z1 a7]at hq ⊢;exact aA (Er:=Er) (qX (R1:=isS) (R2:=(kq K)) (aq (x:=Gq "TooTight") (l:=[84,111,111,84,105,103,104,116]) (cQ _ _ ⋯)))<|λj3 j4 j5 j6=>hq j3 j4 (E0.trans j5) j6
   ·rw[Z2 a7]at hq ⊢
    try dsimp only[aD]
    refine bj<|kN (Er:=Er) (i5<|M0<|ba b0) (λb5 p9 d0 j7 d8=>?_)
    have f2:=none_of E0.h j7;have E0:=E0.trans d0;have h6:=Gm d0.g h6;have a0:=Gm d0.g a0;have a1:=Gm d0.g a1;refine eo (Er:=Er) (f:=BO) (s0:=g2.2.2.2) (Iv:=λ(j8:cV)(f3:Wd)(j9:St)=>∃(d9:Option V)(e0:Option V)(e1:Option V),j9=[some c0,some<|.str<|sOf b8,some<|.int b9,some v5,some d7,some v9,some<|.ref b5,e0,e1,d9]/\Ext W0 f3/\OwD (λ(a:Tx)=>GU<|sOf a) isI f3 b5 j8) (hX (eP<|ba h6)<|hW cS) (Gj hq) ?_ ?_ ?_
    ·intro q0 c3;have E0:=E0.trans c3;have h6:=Gm c3.g h6;have a0:=Gm c3.g a0;have a1:=Gm c3.g a1;have d8:=d8.mono c3;exact⟨_,_,_,rfl,E0,d8⟩
    ·intro q1 q2 q3 e2 q4 k0 q5 q6 e4 a2 iv b6 k1 hq;obtain⟨d9,e0,e1,rfl,E0,b1⟩:=iv;have h6:=Gm e4 h6;have a0:=Gm e4 a0;have a1:=Gm e4 a1;have E0:=E0.trans b6;have a2:=a2.trans b6.g;have h6:=Gm b6.g h6;have a0:=Gm b6.g a0;have a1:=Gm b6.g a1;have b1:=b1.mono b6;refine lI k1 λf4 q7 a3 k2=>?_;cases k2;unfold BO at hq;refine oh (Er:=Er) (f:=(CQ e2)) (s0:=k0) (Iv:=λ(k3:cV)(f5:Wd)(k4:St)=>∃(e5:Option V),k4=[some c0,some<|.str<|sOf b8,some<|.int b9,some v5,some d7,some v9,some<|.ref b5,some f4,some<|.str<|sOf e2.2,e5]/\Ext W0 f5/\OwD (λ(a:Tx)=>GU<|sOf a) isI f5 b5 k3) (j0<|bt (f:=λ(b:Cd)=>b.2.1) pz<|ba a3) (Gj hq) ?_ ?_ ?_
     ·intro q8 b2;have E0:=E0.trans b2;have a2:=a2.trans b2.g;have h6:=Gm b2.g h6;have a0:=Gm b2.g a0;have a1:=Gm b2.g a1;have b1:=b1.mono b2;have a3:=Gm b2.g a3;exact⟨_,rfl,E0,b1⟩
     ·intro q9 r0 r1 k5 r2 r3 r4 r5 c4 c5 iv a9 k6 hq;obtain⟨e5,rfl,E0,b7⟩:=iv;have a2:=a2.trans c4;have h6:=Gm c4 h6;have a0:=Gm c4 a0;have a1:=Gm c4 a1;have a3:=Gm c4 a3;have E0:=E0.trans a9;have a2:=a2.trans a9.g;have c5:=c5.trans a9.g;have h6:=Gm a9.g h6;have a0:=Gm a9.g a0;have a1:=Gm a9.g a1;have b7:=b7.mono a9;have a3:=Gm a9.g a3;cases k6;refine gn (σ':=[some c0,some<|.str<|sOf b8,some<|.int b9,some v5,some d7,some v9,some<|.ref b5,some f4,some<|.str<|sOf e2.2,some<|.str<|sOf k5]) ?_;unfold CQ at hq;refine jn (Er:=Er) gQ kS b7 (bG (bG (i4 gQ kS (ow b7) cS af) af) (rS (fL cS (aq (x:=Gq "i") (l:=[105]) (cQ _ _ ⋯))))) cS<|(Gj hq).imp λk7 hq k8 b3 k9=>?_;have E0:=b3.e _ E0 f2;have a2:=a2.trans b3.g;have c5:=c5.trans b3.g;have h6:=Gm b3.g h6;have a0:=Gm b3.g a0;have a1:=Gm b3.g a1;have a3:=Gm b3.g a3
      try dsimp only
      refine ee (W:=k8) k7 c5 ?_ hq;exact⟨_,rfl,E0,k9⟩
     ·intro l0 l1 r6 c6 iv hq;obtain⟨e5,rfl,E0,b7⟩:=iv;have a2:=a2.trans c6;have h6:=Gm c6 h6;have a0:=Gm c6 a0;have a1:=Gm c6 a1;have a3:=Gm c6 a3
      try dsimp only
      refine ee (W:=l1) l0 a2 ?_ hq;exact⟨_,_,_,rfl,E0,b7⟩
    ·intro r7 r8 r9 e6 iv hq;obtain⟨d9,e0,e1,rfl,E0,b1⟩:=iv;have h6:=Gm e6 h6;have a0:=Gm e6 a0;have a1:=Gm e6 a1;refine zc b1 E0 f2 λs1 E0 e7 b4 s2=>?_;have h6:=Gm e7 h6;have a0:=Gm e7 a0;have a1:=Gm e7 a1;refine br (Er:=Er) (aI (eO (Bh (K:=K) (JB (cF (x5 F0<|ba b4) λs3 l2 s4 l3 l4 s5 l5=>by
      have l7:=GX (R:=sh kW) l3 b4;cases l4;refine gn ?_;exact⟨by simp[Keep,bI],((lQ gQ kS (M0 (ba l7)) cS):EV Er _ [some (.str (sOf l2)),some (.ref b5)] _ _ _) _ (.refl _) _ l5⟩))) af)) ((Gj hq).imp λl8 hq s6 c7=>?_)
     have E0:=E0.trans c7;have h6:=Gm c7.g h6;have a0:=Gm c7.g a0;have a1:=Gm c7.g a1;have b4:=Gm c7.g b4;by_cases a7:l8=true
     ·rw[Z1 a7]at hq ⊢;exact aA (Er:=Er) (qX (R1:=isS) (R2:=(kq K)) (aq (x:=Gq "SpoolDry") (l:=[83,112,111,111,108,68,114,121]) (cQ _ _ ⋯)))<|λl9 m0 m1 m2=>hq l9 m0 (E0.trans m1) m2
     ·rw[Z2 a7]at hq ⊢
      try dsimp only[aD]
      refine bj<|aR (Er:=Er) (HN (cF (hX (eP<|ba a0)<|eP<|ba a1) λs7 f6 s8 s9 m3 t0 m4=>by
       refine lI m3 λt1 t2 m5 m6=>?_;cases m5;cases m6;exact⟨by simp[Keep,bI],((oi bO (lG bO)):EV Er _ [some (.int f6.1),some (.int f6.2)] _ _ _) _ (.refl _) _ m4⟩)) ((Gj hq).imp λt3 hq t4 t5 d1 m7=>?_)
      have E0:=E0.trans d1;have h6:=Gm d1.g h6;have a1:=Gm d1.g a1;have b4:=Gm d1.g b4;exact aA (Er:=Er) (Be (R1:=isS) (R2:=(kq K)) (oo (K:=K) (HN (cF (hX (eP<|ba h6)<|hW cS) λt6 m8 t7 t8 m9 t9 n0=>by
       refine lI m9 λn1 u0 n2 n3=>?_;cases n3;exact⟨by simp[Keep,bI],((bM (ba n2) cS):EV Er _ [some n1,some (.str (sOf m8.2))] _ _ _) _ (.refl _) _ n0⟩)) (ba a1) (ba m7) (ba b4))) (GP hq λu1 hq n4 n5 n6 n7=>hq n4 n5 (E0.trans n6) n7)
theorem FO{f:Addr}{fd:GJ}(F:Fun K "_law_pick" "_law_pick" (tp 61) f fd){nv:Cd->Tx->Res Int}(b7:Cal P w K mg base "_law_twist" ["_law_card_here","_law_turn"] (2) (cB (qA K) isS (rs isI) nv))(b8:mg "zip"=none):FnOk P w K mg base CX0 (3) f fd ["_law_cards","_law_row_here"] (cB (isL<|qA K) isS (ro<|qB K)<|Ec nv):=by
 have SC:FnScope ["_law_cards","_law_row_here","_law_out","_law_card_here","_law_turn","_law_slant"] ["_law_cards","_law_row_here"] (defScope<|tp 61):=by walk_at "F"
 refine F.ok SC (λvs H Q E h=>?_)<|λZ9 A outer s H vs Q E hr h=>?_;·obtain⟨_,_,_,_,_,_,rfl,_⟩:=h;rfl
 ·obtain⟨W0,d0,b9,c0,_,rfl,rfl,a9,c1,Er,hq⟩:=h;cases c1;refine⟨_,(a6 (fh 2<|bR a5)
   (a6 (dO HG rfl (fA (K:=K) rfl rfl b8<|a4 (pv 0)<|a4 (pv 1) a5) (cD (K:=K) (n:=2) rfl rfl<|au (gG 3)<|au (gG 4) cm) (a6 (fh 5<|av dg ak (ag cv (eK b7<|a4 (pv 3)<|a4 (pv 4) a5) a8)<|λ_ _=>rfl)
   (ae (bT (cj (K:=K) rfl (pv 2) (a4 (aT (a4 (av dg (av (aw (K:=K) rfl) (pv 3) a8 (λ_ _=>rfl)) (av (aw (K:=K) rfl) (pv 3) a8 (λ_ _=>rfl)) (λ_ _=>rfl)) (a4 (av dg (av (aw (K:=K) rfl) (pv 3) a8 (λ_ _=>rfl)) (ag aX (ag cv (av (aw (K:=K) rfl) (pv 3) a8 (λ_ _=>rfl)) a8) a8) (λ_ _=>rfl)) (a4 (pv 5) a5)))) a5))))))
   (ae (ai (pv 2))))),?_⟩
  have E0:Ext W0 W0:=.refl W0;unfold Ec at hq;refine bj<|ji (Er:=Er) (o4 (R:=(qB K))) (λp3 W1 e2 hp4 o5=>?_)
  have fr6:=none_of E0.h hp4;have E0:=E0.trans e2;have a9:=Gm e2.g a9;refine eo (Er:=Er) (f:=(CS nv)) (s0:=([]:List Pl)) (Iv:=λ(s9:(List Pl))(b5:Wd)(c2:St)=>∃(b0:Option V)(b1:Option V)(b2:Option V),c2=[some c0,some<|.str<|sOf b9,some<|.ref p3,b1,b2,b0]/\Ext W0 b5/\Ow (qB K) b5 p3 s9) (hX (eP<|ba a9)<|hW cS) (Gj hq) ?_ ?_ ?_
  ·intro d1 b6;have E0:=E0.trans b6;have o5:=o5.mono b6;exact⟨_,_,_,rfl,E0,o5⟩
  ·intro d2 d3 d4 a7 d5 s8 d6 d7 d8 a1 iv b3 c3 hq;obtain⟨b0,b1,b2,rfl,E0,a2⟩:=iv;have E0:=E0.trans b3;have a1:=a1.trans b3.g;have a2:=a2.mono b3;refine lI c3 λd9 e0 a0 c4=>?_;cases c4;unfold CS at hq;refine bj<|aR (Er:=Er) (dh (aq (x:=Gq "zos") (l:=[122,111,115]) (cQ _ _ ⋯))<|bG (bM (ba a0) cS) af) ((Gj hq).imp λe1 hq e3 e4 a3 c5=>?_)
   cases c5;have E0:=E0.trans a3;have a1:=a1.trans a3.g;have a2:=a2.mono a3;have a0:=Gm a3.g a0;refine jP (Er:=Er) a2 (fB (K:=K) (dh (bt (f:=λ(b:Cd)=>b.2.1) pz<|ba a0)<|bt (f:=λ(b:Cd)=>b.2.2) vZ<|ba a0) (dh (bt (f:=λ(b:Cd)=>b.2.1) pz<|ba a0) (aE (λ_=>by decide)<|bG (bt (f:=λ(b:Cd)=>b.2.2) vZ<|ba a0) af)) cS)<|(Gj hq).imp λc6 hq c7 b4 c8=>?_;have E0:=b4.e _ E0 fr6;have a1:=a1.trans b4.g;have a0:=Gm b4.g a0
   try dsimp only
   refine ee (W:=c7) c6 a1 ?_ hq;exact⟨_,_,_,rfl,E0,c8⟩
  ·intro e5 c9 e6 e7 iv hq;obtain⟨b0,b1,b2,rfl,E0,a2⟩:=iv;exact⟨.ref p3,rfl,hq p3 c9 E0 fr6 a2⟩
abbrev eg(K:Gp):=fz<|isT2 K (kq K)<|isU K
theorem FP{f:Addr}{fd:GJ}(F:Fun K "_law_do" "_law_do" (tp 62) f fd){xm:Cd->Res Cd}{sG:ef->Tx->Int->Res (Tx ⊕ ef)}{mH:(List Cd)->Tx->Res (List Pl)}(d6:Cal P w K mg base "_law_turnover" ["_law_card_here"] (1) (dY (qA K) (rs<|qA K) xm))(d7:Cal P w K mg base "_law_after" ["_law_state","_law_row_here","_law_most_here"] (3) (jO (kq K) isS isI (rs<|isEi isS<|kq K) sG))(d8:Cal P w K mg base "_law_pick" ["_law_cards","_law_row_here"] (3) (cB (isL<|qA K) isS (ro<|qB K) mH))(d9:mg "isinstance"=none)(c8:mg "len"=none)(e0:mg "list"=none)(e1:mg "str"=none):FnOk P w K mg base CX0 (4) f fd ["_law_stack","_law_undone","_law_deed_here","_law_most_here"] (DJ (oL<|eg K) (oL<|eg K) (aC (isU K)<|aC isI aN) (isU K)<|λx y a=>Ah xm sG mH x y a.1 a.2.1):=by
 have SC:FnScope ["_law_stack","_law_undone","_law_deed_here","_law_most_here","_law_state","_law_cards","_law_later"] ["_law_stack","_law_undone","_law_deed_here","_law_most_here"] (defScope<|tp 62):=by walk_at "F"
 refine F.ok SC (λvs H Q E h=>?_)<|λZ9 A outer s H vs Q E hr h=>?_;·obtain⟨_,_,_,_,_,_,_,us,_,rfl,_,_,ra,_⟩:=h;obtain⟨_,us,rfl,_,ra⟩:=ra;obtain⟨_,us,rfl,_,ra⟩:=ra;cases ra;rfl
 ·obtain⟨W0,W,b0,a3,a1,a2,aa,us,rfl,rfl,E0,S,ra,Er,hq⟩:=h;obtain⟨c9,d0,_⟩:=aa;obtain⟨e3,us,rfl,a0,ra⟩:=ra;replace a0:(isU K) W.G c9 e3:=a0;obtain⟨e4,us,rfl,b8,ra⟩:=ra;replace b8:isI W.G d0 e4:=b8;cases ra;replace hq:(Ah xm sG mH b0 a3 c9 d0).OkE Er (CI W0 W (oL<|eg K) (oL<|eg K) (isU K) a1 a2 Q):=hq;cases b8;refine⟨_,(a6 (fh 4<|av (aw (K:=K) rfl) (av (bz (K:=K) rfl) (pv 0) (mJ jH a8)<|λ_ _=>rfl) a8<|λ_ _=>rfl)
   (a6 (bq (aG cK (av (aw (K:=K) rfl) (pv 2) a8<|λ_ _=>rfl) ak<|aH _) (a6 (bq (aG cK (aj (bP (K:=K) rfl) (by rfl) c8 HH<|a4 (pv 0) a5) a8<|aH _) (ae<|ai<|aT<|a4 ak<|a4 (bR<|a4 ak a5) a5) az)
   (a6 (bT<|cj (K:=K) rfl (pv 1)<|a4 (iw (K:=K) rfl Ht Jw JW nP<|pv 0) a5)
   (ae (ai (aT (a4 ak (a4 (av (aw (K:=K) rfl) (av (bz (K:=K) rfl) (pv 1) (mJ jH a8) (λ_ _=>rfl)) a8 (λ_ _=>rfl)) a5))))))) az)
   (a6 (bq (aG cK (av (aw (K:=K) rfl) (pv 2) a8<|λ_ _=>rfl) ak<|aH _) (a6 (bq (aG (B7 hr.units0) (pv 1) (bR a5)<|aH _) (ae<|ai<|aT<|a4 ak<|a4 (bR<|a4 ak a5) a5) az)
   (a6 (bT<|cj (K:=K) rfl (pv 0)<|a4 (iw (K:=K) rfl Ht Jw JW nP<|pv 1) a5)
   (ae (ai (aT (a4 ak (a4 (av (aw (K:=K) rfl) (av (bz (K:=K) rfl) (pv 0) (mJ jH a8) (λ_ _=>rfl)) a8 (λ_ _=>rfl)) a5))))))) az)
   (a6 (bq (aG cK (av (aw (K:=K) rfl) (pv 2) a8<|λ_ _=>rfl) ak<|aH _) (a6 (bq (N4 (l6 (aG mK (av (aw (K:=K) rfl) (pv 2) a8<|λ_ _=>rfl) a8<|aH _) (jF (aG vm (av (aw (K:=K) rfl) (pv 2) a8<|λ_ _=>rfl) (aj (bP (K:=K) rfl) (by rfl) c8 HH<|a4 (av (aw (K:=K) rfl) (pv 4) a8<|λ_ _=>rfl) a5)<|aH _)))) (ae<|ai<|aT<|a4 ak<|a4 (bR<|a4 ak a5) a5) az)
   (a6 (fh 5 (bF (cM (K:=K) rfl) (by rfl) e0 HI<|a4 (av (aw (K:=K) rfl) (pv 4) a8<|λ_ _=>rfl) a5))
   (a6 (gU (eK d6<|a4 (av (bz (K:=K) rfl) (pv 5) (av (aw (K:=K) rfl) (pv 2) a8<|λ_ _=>rfl)<|λ_ _=>rfl) a5)<|vf (pv 5) (av (aw (K:=K) rfl) (pv 2) a8<|λ_ _=>rfl) oX)
   (a6 (bT<|cj (K:=K) rfl (pv 0)<|a4 (aT<|a4 (aT<|a4 (pv 5)<|a4 (av (aw (K:=K) rfl) (pv 4) a8<|λ_ _=>rfl)<|a4 (av (aw (K:=K) rfl) (pv 4) a8<|λ_ _=>rfl)<|a4 (av (aw (K:=K) rfl) (pv 4) a8<|λ_ _=>rfl) a5)<|a4 (pv 2) a5) a5)
   (a6 (bT<|iw (K:=K) rfl Ht KI M7 oZ<|pv 1)
   (ae (ai (aT (a4 ak (a4 jD a5)))))))))) az)
   (a6 (fh 6<|eK d7<|a4 (pv 4)<|a4 (av (aw (K:=K) rfl) (pv 2) a8<|λ_ _=>rfl)<|a4 (pv 3) a5)
   (a6 (bq (cO (aj (bN (K:=K) rfl) (by rfl) d9 Gz (a4 (pv 6) (a4 (dU (v:=.ty "str") (by rfl) e1 IG rfl) a5)))) (ae<|ai<|aT<|a4 ak<|a4 (bR<|a4 (pv 6) a5) a5) az)
   (a6 (bT<|cj (K:=K) rfl (pv 0)<|a4 (aT<|a4 (pv 6)<|a4 (pv 2) a5) a5)
   (a6 (bT<|iw (K:=K) rfl Ht KI M7 oZ<|pv 1)
   (ae (ai (aT (a4 ak (a4 (eK d8 (a4 (av (aw (K:=K) rfl) (pv 6) a8 (λ_ _=>rfl)) (a4 (av (aw (K:=K) rfl) (pv 2) a8 (λ_ _=>rfl)) a5))) a5))))))))))))),?_⟩
  have hS0:Same W.G W.G:=.refl _;have S:Sep W0 W [tc (oL<|eg K) b0 a1,tc (oL<|eg K) a3 a2]:=S;unfold Ah at hq;refine bj<|aR (Er:=Er) (bt (f:=λ(b:ef×Dat)=>b.1) AW<|eS<|iE (cq (R:=(oL<|eg K)) (k:=0) S)<|jN af) ((Gj hq).imp λy4 hq v5 W1 e2 h6=>?_)
  have S:=S.ext e2;have E0:=E0.trans e2;have hS0:=hS0.trans e2.g;have a0:=Gm e2.g a0;refine br (Er:=Er) (aI (fL (dR (K:=K) gs<|dG (ba a0) af) (aq (x:=Gq "undo") (l:=[117,110,100,111]) (cQ _ _ ⋯))))<|(Gj hq).imp λy9 hq g7 b1=>?_;have S:=S.ext b1;have E0:=E0.trans b1;have hS0:=hS0.trans b1.g;have a0:=Gm b1.g a0;have h6:=Gm b1.g h6;by_cases a7:y9=true
  ·rw[Z1 a7]at hq ⊢;refine br (Er:=Er) (aI<|dQ (ff<|eU<|cq (R:=(oL<|eg K)) (k:=0) S) af)<|λg8 b9=>?_;have S:=S.ext b9;have E0:=E0.trans b9;have hS0:=hS0.trans b9.g;by_cases d1:(decide<|(b0.length:Int)=(1:Int))=true
   ·rw[Z1 d1]at hq ⊢;exact fY (Er:=Er) S E0 hS0 (di (K:=K) (u:=λ(z:Tx×(List Tx))=>Je [HM z.1,KO<|z.2.map λ(z:Tx)=>HM z]) (fk cR<|jm (u:=λ(z:Tx)=>HM z) cR) (aZ (K:=K) (aq (x:=Gq "refused") (l:=[114,101,102,117,115,101,100]) (cQ _ _ ⋯)) (HN (cZ (bf (aq (x:=Gq "NothingLeft") (l:=[78,111,116,104,105,110,103,76,101,102,116]) (cQ _ _ ⋯))<|cY (R:=isS)))))) hq
   ·rw[Z2 d1]at hq ⊢
    try dsimp only[aD]
    refine bj<|nq (Er:=Er) (K:=K) (k:=1) (l:=0) (i:=1) (j:=0) S E0 rfl rfl ⋯ ((Gj hq).imp λd2 hq e5 e6 E0 S=>?_)
    have S:Sep W0 e5 [tc (oL<|eg K) d2.2 a1,tc (oL<|eg K) d2.1 a2]:=S;have hS0:=hS0.trans e6;exact fY (Er:=Er) S E0 hS0 (di (K:=K) (fk cR lM) (aZ (K:=K) (aq (x:=Gq "told") (l:=[116,111,108,100]) (cQ _ _ ⋯))<|bt (f:=λ(b:ef×Dat)=>b.2) tY<|eS<|iE (cq (R:=(oL<|eg K)) (k:=1) S)<|jN af)) hq
  ·rw[Z2 a7]at hq ⊢
   try dsimp only[aD]
   refine br (Er:=Er) (aI (fL (dR (K:=K) gs<|dG (ba a0) af) (aq (x:=Gq "redo") (l:=[114,101,100,111]) (cQ _ _ ⋯))))<|(Gj hq).imp λe7 hq g9 b2=>?_;have S:=S.ext b2;have E0:=E0.trans b2;have hS0:=hS0.trans b2.g;have a0:=Gm b2.g a0;have h6:=Gm b2.g h6;by_cases a7:e7=true
   ·rw[Z1 a7]at hq ⊢;refine br (Er:=Er) (aI<|B8<|eU<|cq (R:=(oL<|eg K)) (k:=1) S)<|λh0 c0=>?_;have S:=S.ext c0;have E0:=E0.trans c0;have hS0:=hS0.trans c0.g;by_cases d3:a3.isEmpty=true
    ·rw[Z1 d3]at hq ⊢;exact fY (Er:=Er) S E0 hS0 (di (K:=K) (u:=λ(z:Tx×(List Tx))=>Je [HM z.1,KO<|z.2.map λ(z:Tx)=>HM z]) (fk cR<|jm (u:=λ(z:Tx)=>HM z) cR) (aZ (K:=K) (aq (x:=Gq "refused") (l:=[114,101,102,117,115,101,100]) (cQ _ _ ⋯)) (HN (cZ (bf (aq (x:=Gq "NothingLeft") (l:=[78,111,116,104,105,110,103,76,101,102,116]) (cQ _ _ ⋯))<|cY (R:=isS)))))) hq
    ·rw[Z2 d3]at hq ⊢
     try dsimp only[aD]
     refine bj<|nq (Er:=Er) (K:=K) (k:=0) (l:=1) (i:=0) (j:=1) S E0 rfl rfl ⋯ ((Gj hq).imp λd4 hq e8 e9 E0 S=>?_)
     have S:Sep W0 e8 [tc (oL<|eg K) d4.1 a1,tc (oL<|eg K) d4.2 a2]:=S;have hS0:=hS0.trans e9;exact fY (Er:=Er) S E0 hS0 (di (K:=K) (fk cR lM) (aZ (K:=K) (aq (x:=Gq "told") (l:=[116,111,108,100]) (cQ _ _ ⋯))<|bt (f:=λ(b:ef×Dat)=>b.2) tY<|eS<|iE (cq (R:=(oL<|eg K)) (k:=0) S)<|jN af)) hq
   ·rw[Z2 a7]at hq ⊢
    try dsimp only[aD]
    refine br (Er:=Er) (aI (fL (dR (K:=K) gs<|dG (ba a0) af) (aq (x:=Gq "flip") (l:=[102,108,105,112]) (cQ _ _ ⋯))))<|(Gj hq).imp λf0 hq h1 b3=>?_;have S:=S.ext b3;have E0:=E0.trans b3;have hS0:=hS0.trans b3.g;have a0:=Gm b3.g a0;have h6:=Gm b3.g h6;by_cases a7:f0=true
    ·rw[Z1 a7]at hq ⊢;refine br (Er:=Er) (pw (aI<|eO (dR (K:=K) pI<|dG (ba a0) af) af)<|aI<|eO (dR (K:=K) pI<|dG (ba a0) af)<|ff<|Jl<|bt (f:=λ(b:(List Cd)×(List Int)×(List Int)×cV)=>b.1) uf<|ba h6)<|(Gj hq).imp λf1 hq h2 b4=>?_;have S:=S.ext b4;have E0:=E0.trans b4;have hS0:=hS0.trans b4.g;have a0:=Gm b4.g a0;have h6:=Gm b4.g h6;by_cases d5:f1=true
     ·rw[Z1 d5]at hq ⊢;exact fY (Er:=Er) S E0 hS0 (di (K:=K) (u:=λ(z:Tx×(List Tx))=>Je [HM z.1,KO<|z.2.map λ(z:Tx)=>HM z]) (fk cR<|jm (u:=λ(z:Tx)=>HM z) cR) (aZ (K:=K) (aq (x:=Gq "refused") (l:=[114,101,102,117,115,101,100]) (cQ _ _ ⋯)) (HN (cZ (bf (aq (x:=Gq "NoTablet") (l:=[78,111,84,97,98,108,101,116]) (cQ _ _ ⋯))<|cY (R:=isS)))))) hq
     ·rw[Z2 d5]at hq ⊢
      try dsimp only[aD]
      refine bj<|js (Er:=Er) S E0 (Qr<|fi<|Jl<|bt (f:=λ(b:(List Cd)×(List Int)×(List Int)×cV)=>b.1) uf<|ba h6) (λc1 f2 b6 S=>?_)
      have E0:=E0.trans b6;have hS0:=hS0.trans b6.g;have a0:=Gm b6.g a0;have h6:=Gm b6.g h6;have S:Sep W0 f2 [tc (oL<|eg K) b0 a1,tc (oL<|eg K) a3 a2,tc (oL<|fz<|qA K) y4.1 c1]:=S;refine bj<|z9 (Er:=Er) (C:=λbb=>[tc (oL<|eg K) b0 a1,tc (oL<|eg K) a3 a2,tc (oL<|fz<|qA K) bb c1]) (k:=2) (i:=5) S E0 (dz<|eS<|iE (cq (R:=(oL<|fz<|qA K)) (k:=2) S)<|dR (K:=K) pI<|dG (ba a0) af) (dR (K:=K) pI<|dG (ba a0) af) ((Gj hq).imp λf3 hq f4 c2 E0 S=>?_)
      have S:Sep W0 f4 [tc (oL<|eg K) b0 a1,tc (oL<|eg K) a3 a2,tc (oL<|fz<|qA K) f3 c1]:=S;have hS0:=hS0.trans c2;have a0:=Gm c2 a0;have h6:=Gm c2 h6;obtain⟨f5,f6,E0,c3,S,f7⟩:=Sep.frz (R:=(oL<|fz<|qA K)) (i:=2) S E0 rfl;rw[<-f6];have S:Sep W0 f5 [tc (oL<|eg K) b0 a1,tc (oL<|eg K) a3 a2]:=S;have hS0:=hS0.trans c3;have a0:=Gm c3 a0;have h6:=Gm c3 h6;refine bj<|sv (Er:=Er) (K:=K) (C:=λbb=>[tc (oL<|eg K) bb a1,tc (oL<|eg K) a3 a2]) (k:=0) (i:=0) S E0 (aZ (K:=K) (oo (K:=K) (ba f7) (bt (f:=λ(b:(List Cd)×(List Int)×(List Int)×cV)=>b.2.1) Cq<|ba h6) (bt (f:=λ(b:(List Cd)×(List Int)×(List Int)×cV)=>b.2.2.1) Cr<|ba h6)<|bt (f:=λ(b:(List Cd)×(List Int)×(List Int)×cV)=>b.2.2.2) Cs<|ba h6)<|ba a0) ((Gj hq).imp λc4 hq f8 f9 E0 S=>?_)
      have S:Sep W0 f8 [tc (oL<|eg K) c4 a1,tc (oL<|eg K) a3 a2]:=S;have hS0:=hS0.trans f9;refine bj<|sr (Er:=Er) (K:=K) E0 (fM (R:=(oL<|eg K)) (C:=λbb=>[tc (oL<|eg K) c4 a1,tc (oL<|eg K) bb a2]) (k:=1) S E0) ((Gj hq).imp λg0 hq g1 g2 E0 S=>?_)
      have S:Sep W0 g1 [tc (oL<|eg K) c4 a1,tc (oL<|eg K) g0 a2]:=S;have hS0:=hS0.trans g2;exact fY (Er:=Er) S E0 hS0 (di (K:=K) (u:=λ(z:Tx×(Option Unit))=>Je [HM z.1,B3 (λ(z:Unit)=>O8) z.2]) (fk cR<|Cm wx) (aZ (K:=K) (aq (x:=Gq "told") (l:=[116,111,108,100]) (cQ _ _ ⋯)) nY)) hq
    ·rw[Z2 a7]at hq ⊢
     try dsimp only[aD]
     refine bj<|aR (Er:=Er) (w4 (ba h6) (dR (K:=K) gs<|dG (ba a0) af) bO) ((Gj hq).imp λg3 hq h3 h4 b7 a9=>?_)
     have S:=S.ext b7;have E0:=E0.trans b7;have hS0:=hS0.trans b7.g;have a0:=Gm b7.g a0;refine br (Er:=Er) (iZ<|xf (K:=K) Bg<|ba a9)<|λh5 b5=>?_;have S:=S.ext b5;have E0:=E0.trans b5;have hS0:=hS0.trans b5.g;have a0:=Gm b5.g a0;have a9:=Gm b5.g a9;by_cases a7:((g3).isLeft)=true
     ·rw[Z1 a7]at hq ⊢;exact fY (Er:=Er) S E0 hS0 (di (K:=K) (u:=λ(z:Tx×(List Tx))=>Je [HM z.1,KO<|z.2.map λ(z:Tx)=>HM z]) (fk cR<|jm (u:=λ(z:Tx)=>HM z) cR) (aZ (K:=K) (aq (x:=Gq "refused") (l:=[114,101,102,117,115,101,100]) (cQ _ _ ⋯))<|HN<|cZ<|bf (Bf (R1:=isS) (R2:=(kq K))<|ba a9)<|cY (R:=isS))) hq
     ·rw[Z2 a7]at hq ⊢
      try dsimp only[aD]
      refine bj<|sv (Er:=Er) (K:=K) (C:=λbb=>[tc (oL<|eg K) bb a1,tc (oL<|eg K) a3 a2]) (k:=0) (i:=0) S E0 (aZ (K:=K) (xb (R1:=isS) (R2:=(kq K))<|ba a9)<|ba a0) ((Gj hq).imp λc5 hq g4 c6 E0 S=>?_)
      have S:Sep W0 g4 [tc (oL<|eg K) c5 a1,tc (oL<|eg K) a3 a2]:=S;have hS0:=hS0.trans c6;have a0:=Gm c6 a0;have a9:=Gm c6 a9;refine bj<|sr (Er:=Er) (K:=K) E0 (fM (R:=(oL<|eg K)) (C:=λbb=>[tc (oL<|eg K) c5 a1,tc (oL<|eg K) bb a2]) (k:=1) S E0) ((Gj hq).imp λg5 hq g6 c7 E0 S=>?_)
      have S:Sep W0 g6 [tc (oL<|eg K) c5 a1,tc (oL<|eg K) g5 a2]:=S;have hS0:=hS0.trans c7;have a0:=Gm c7 a0;have a9:=Gm c7 a9;exact fY (Er:=Er) S E0 hS0 (di (K:=K) (u:=λ(z:Tx×(List Pl))=>Je [HM z.1,KO<|z.2.map λ(z:Pl)=>Je [HM z.1,HM z.2.1,HM z.2.2]]) (fk cR<|jm (u:=λ(z:Pl)=>Je [HM z.1,HM z.2.1,HM z.2.2])<|Aa cR cR cR) (aZ (K:=K) (aq (x:=Gq "told") (l:=[116,111,108,100]) (cQ _ _ ⋯))<|HN<|mY (bt (f:=λ(b:(List Cd)×(List Int)×(List Int)×cV)=>b.1) uf<|xb (R1:=isS) (R2:=(kq K))<|ba a9)<|dR (K:=K) gs<|dG (ba a0) af)) hq
theorem FQ{f:Addr}{fd:GJ}(F:Fun K "now" "Loom.now" (tq 38 1) f fd){a1 a0:Addr}(a3:Cls K a0)(a4:NoAttr K a0 "course")(a5:NoAttr K a0 "start"):FnOk P w K mg base CX0 (1) f fd ["self"] (gj (wC (vw<|bL K a1 a0) wN) (rs<|aS K a1)<|λa=>CT a.1):=by
 have SC:FnScope ["self"] ["self"] (defScope<|tq 38 1):=by walk_at "F"
 refine F.ok SC (λvs H Q E h=>?_)<|λZ9 A outer s H vs Q E hr h=>?_;·obtain⟨_,_,_,ra,_⟩:=h;obtain⟨_,us,rfl,_,ra⟩:=ra;cases ra;rfl
 ·obtain⟨W0,aa,rfl,ra,Er,hq⟩:=h;obtain⟨self,_⟩:=aa;obtain⟨a6,us,rfl,a2,ra⟩:=ra;replace a2:(vw<|bL K a1 a0) W0 self a6:=a2;cases ra;replace hq:(CT self).OkE Er (λr=>(rs<|aS K a1) W0 r Q):=hq;refine⟨_,(ae<|ai<|l8 (iG (K:=K) rfl<|aM (K:=K) rfl (pv 0) rfl) (av (bz (K:=K) rfl) (aM (K:=K) rfl (pv 0) rfl) (mJ jH a8)<|λ_ _=>rfl)<|aM (K:=K) rfl (pv 0) rfl),?_⟩;have E0:Ext W0 W0:=.refl W0;unfold CT at hq;exact aA (Er:=Er) (vX (kU (K:=K)<|eU<|eV a3 a4 Z1w.at_<|aY (R:=(vw<|bL K a1 a0))<|GX E0 a2) (eS<|iE (eV a3 a4 Z1w.at_<|aY (R:=(vw<|bL K a1 a0))<|GX E0 a2)<|jN af)<|eS<|eV a3 a5 Z3w.at_<|aY (R:=(vw<|bL K a1 a0))<|GX E0 a2)<|GP hq λy1 hq v2 W3 e4 h5=>hq v2 W3 (E0.trans e4) h5
theorem FR{f:Addr}{fd:GJ}(F:Fun K "is_row" "is_row" (tp 28) f fd)(a0:mg "all"=none)(a1:mg "len"=none){a3:Tok}(a6:mg "TURNS"=some (.str (Gq "fbi") a3)):FnOk P w K mg base CX0 (1) f fd ["text","width"] (cB isS isI (rs isB)<|Ed):=by
 have SC:FnScope ["text","width"] ["text","width"] (defScope<|tp 28):=by walk_at "F"
 refine F.ok SC (λvs H Q E h=>?_)<|λZ9 A outer s H vs Q E hr h=>?_;·obtain⟨_,_,_,_,_,_,rfl,_⟩:=h;rfl
 ·obtain⟨W0,text,width,_,_,rfl,rfl,a7,a8,Er,hq⟩:=h;cases a7;cases a8;refine⟨_,(ae (ai (l7 (eM cK (aj (bP (K:=K) rfl) (by rfl) a1 HH<|a4 (pv 0) a5) (pv 1)<|aH _) (nJ (aj (ua (K:=K) rfl rfl) (by rfl) a0 Py (a4 (d5 (N:=["sign"]) (cap:=[none]) (fu rfl ⋯ rfl ⋯ (by rfl) (by rfl)) rfl (iS<|pv 0) (λ_ _ _ _=>(aJ (i:=0) (show H9 (["sign"]:List Str) by decide +kernel) rfl (by walk_at "L"))) (λ_ _ _ _=>cn) (λ_ _ _ _=>(eM tu (pv 0) (bQ (v:=.str<|Gq "fbi") (by rfl) a6 ⟨_,rfl⟩) (by with_unfolding_all rfl)))) a5)))))),?_⟩;have E0:Ext W0 W0:=.refl W0;rw[show L2.start ["text","width"] [.str (sOf text),.int width]=[some (.str<|sOf text),some<|.int width]from rfl];unfold Ed at hq;exact aA (Er:=Er) (AS (dQ (o9 cS) bO) (AY (JB (cF (j0 cS) λW4 a2 v3 e5 h6 Q9 a9=>by
   cases h6;refine gn ?_;exact⟨by simp[Keep,bI],((AU cS (aq (x:=Gq "fbi") (l:=[102,98,105]) (cQ _ _ ⋯))):EV Er _ [some (.str (sOf a2))] _ _ _) _ (.refl _) _ a9⟩)))) (GP hq λb4 hq b0 b1 b2 b3=>hq b0 b1 (E0.trans b2) b3)
theorem FT{f:Addr}{fd:GJ}(F:Fun K "twisting" "twisting" (tp 23) f fd){a1:Addr}(a2:mg "STEPS"=some (.ref a1))(a3:DictK K w a1 [(GU<|Gq "f",.int<|1),(GU<|Gq "b",.int<|-1),(GU<|Gq "i",.int<|0)]):FnOk P w K mg base CX0 (1) f fd ["tablet","turn"] (cB (qA K) isS (rs isI)<|Ee):=by
 have SC:FnScope ["tablet","turn","step"] ["tablet","turn"] (defScope<|tp 23):=by walk_at "F"
 refine F.ok SC (λvs H Q E h=>?_)<|λZ9 A outer s H vs Q E hr h=>?_;·obtain⟨_,_,_,_,_,_,rfl,_⟩:=h;rfl
 ·obtain⟨W0,tablet,turn,a7,_,rfl,rfl,a0,a4,Er,hq⟩:=h;cases a4
  refine⟨_,(a6 (fh 2 (iu (K:=K) (w:=w) rfl rfl (bQ (v:=.ref _) (by rfl) a2 rfl) (pv 1)<|λ_ _=>rfl))
   (ae (ai (l8 (aG cK (av (aw (K:=K) rfl) (pv 0) a8 (λ_ _=>rfl)) ak (aH _)) (pv 2) (mJ jH (pv 2)))))),?_⟩
  have E0:Ext W0 W0:=.refl W0;unfold Ee at hq;refine bj<|aR (Er:=Er) (n0 a3 ⋯ cS) ((Gj hq).imp λy3 hq v4 W1 e2 h5=>?_)
  cases h5;have E0:=E0.trans e2;have a0:=Gm e2.g a0;exact aA (Er:=Er) (vX (aI (fL (bt (f:=λ(b:Cd)=>b.1) vY<|ba a0) (aq (x:=Gq "S") (l:=[83]) (cQ _ _ ⋯)))) bO<|jN bO)<|GP hq λy6 hq v7 W8 e9 a5=>hq v7 W8 (E0.trans e9) a5
theorem FU{f:Addr}{fd:GJ}(F:Fun K "taken" "taken" (tp 36) f fd)(c6:mg "zip"=none):FnOk P w K mg base CX0 (1) f fd ["draft","row"] (cB (isL<|qA K) isS (rs kW)<|Ef):=by
 have SC:FnScope ["draft","row","lengths","tablet","turn","colour"] ["draft","row"] (defScope<|tp 36):=by walk_at "F"
 refine F.ok SC (λvs H Q E h=>?_)<|λZ9 A outer s H vs Q E hr h=>?_;·obtain⟨_,_,_,_,_,_,rfl,_⟩:=h;rfl
 ·obtain⟨W0,draft,row,b3,_,rfl,rfl,b4,z_row,Er,hq⟩:=h;cases z_row;refine⟨_,(a6 (fh 2 p7)
   (a6 (dO HG rfl (fA (K:=K) rfl rfl c6<|a4 (pv 0)<|a4 (pv 1) a5) (cD (K:=K) (n:=2) rfl rfl<|au (gG 3)<|au (gG 4) cm)<|ae<|dO HG rfl (iS<|av (aw (K:=K) rfl) (pv 3) a8<|λ_ _=>rfl) (gG 5)<|ae<|jd (dZ hr) (pv 2) (pv 5) (ag cv (hG (dZ hr) (pv 2) (pv 5) a8 ⟨rfl,rfl,rfl,rfl⟩)<|l8 (aG cK (pv 4) ak<|aH _) a8 a8) rfl)
   (ae (sy (i:=2) (ai (pv 2)))))),?_⟩
  have E0:Ext W0 W0:=.refl W0;unfold Ef at hq;refine bj<|kN (Er:=Er) (rZ (g:=(λ(a:Tx)=>GU<|sOf a)) (R:=isI)) (λp3 W1 e2 hp4 o5=>?_)
  have fr6:=none_of E0.h hp4;have E0:=E0.trans e2;have b4:=Gm e2.g b4;refine eo (Er:=Er) (f:=CV) (s0:=([]:List (Tx×Int))) (Iv:=λ(s9:cV)(c0:Wd)(c7:St)=>∃(b5:Option V)(b6:Option V)(b7:Option V),c7=[some b3,some<|.str<|sOf row,some<|.ref p3,b6,b7,b5]/\Ext W0 c0/\OwD (λ(a:Tx)=>GU<|sOf a) isI c0 p3 s9) (hX (eP<|ba b4)<|hW cS) (Gj hq) ?_ ?_ ?_
  ·intro e5 c1;have E0:=E0.trans c1;have o5:=o5.mono c1;exact⟨_,_,_,rfl,E0,o5⟩
  ·intro e6 e7 e8 a7 e9 s8 f0 f1 f2 a0 iv b8 c8 hq;obtain⟨b5,b6,b7,rfl,E0,a2⟩:=iv;have E0:=E0.trans b8;have a0:=a0.trans b8.g;have a2:=a2.mono b8;refine lI c8 λc2 f3 a1 c9=>?_;cases c9;unfold CV at hq;refine oh (Er:=Er) (f:=(CU a7)) (s0:=s8) (Iv:=λ(d0:cV)(c3:Wd)(d1:St)=>∃(b9:Option V),d1=[some b3,some<|.str<|sOf row,some<|.ref p3,some c2,some<|.str<|sOf a7.2,b9]/\Ext W0 c3/\OwD (λ(a:Tx)=>GU<|sOf a) isI c3 p3 d0) (j0<|bt (f:=λ(b:Cd)=>b.2.1) pz<|ba a1) (Gj hq) ?_ ?_ ?_
   ·intro f4 b1;have E0:=E0.trans b1;have a0:=a0.trans b1.g;have a2:=a2.mono b1;have a1:=Gm b1.g a1;exact⟨_,rfl,E0,a2⟩
   ·intro f5 f6 f7 d2 f8 f9 g0 g1 c4 a9 iv b0 d3 hq;obtain⟨b9,rfl,E0,a3⟩:=iv;have a0:=a0.trans c4;have a1:=Gm c4 a1;have E0:=E0.trans b0;have a0:=a0.trans b0.g;have a9:=a9.trans b0.g;have a3:=a3.mono b0;have a1:=Gm b0.g a1;cases d3;refine gn (σ':=[some b3,some<|.str<|sOf row,some<|.ref p3,some c2,some<|.str<|sOf a7.2,some<|.str<|sOf d2]) ?_;unfold CU at hq;refine jn (Er:=Er) gQ kS a3 (bG (i4 gQ kS (ow a3) cS af) (vX (aI (fL cS (aq (x:=Gq "i") (l:=[105]) (cQ _ _ ⋯)))) af af)) cS<|(Gj hq).imp λd4 hq d5 b2 d6=>?_;have E0:=b2.e _ E0 fr6;have a0:=a0.trans b2.g;have a9:=a9.trans b2.g;have a1:=Gm b2.g a1
    try dsimp only
    refine ee (W:=d5) d4 a9 ?_ hq;exact⟨_,rfl,E0,d6⟩
   ·intro d7 d8 g2 c5 iv hq;obtain⟨b9,rfl,E0,a3⟩:=iv;have a0:=a0.trans c5;have a1:=Gm c5 a1
    try dsimp only
    refine ee (W:=d8) d7 a0 ?_ hq;exact⟨_,_,_,rfl,E0,a3⟩
  ·intro g3 g4 g5 g6 iv hq;obtain⟨b5,b6,b7,rfl,E0,a2⟩:=iv;refine sA a2 E0 fr6 λg7 E0 g8 d9 g9=>?_;exact aA (Er:=Er) (ba d9)<|λe0 e1 e3 e4=>hq e0 e1 (E0.trans e3) e4
theorem FV{f:Addr}{fd:GJ}(F:Fun K "drawn_off" "drawn_off" (tp 37) f fd){b7 b8 b9 c0 c1 c2 a2 c3 c4 c5 c6 c7 c8:Addr}(c9:mg "dict"=none)(d0:mg "SpoolDry"=some (.ref a2))(d1:Ecl base a2):FnOk P w K mg base (CXR P w) (1) f fd ["spools","lengths"] (mE kW kW [b7,b8,b9,c0,c1,c2,a2,c3,c4,c5,c6,c7,c8] (rs kW)<|Eg):=by
 have SC:FnScope ["spools","lengths","left","colour","length"] ["spools","lengths"] (defScope<|tp 37):=by walk_at "F"
 refine F.okR SC (λvs H Q E h=>?_)<|λZ9 A outer s H vs Q E hr h=>?_;·obtain⟨_,_,_,_,_,_,rfl,_⟩:=h;rfl
 ·obtain⟨W0,spools,lengths,d2,d3,rfl,rfl,d4,a3,Er,hEr,hq⟩:=h
  refine⟨_,(a6 (fh 2 (bF gy (by rfl) c9 Jj<|a4 (pv 0) a5))
   (a6 (dO PassesOwn.leaving rfl (wZ<|pv 1) (cD (K:=K) (n:=2) rfl rfl<|au (gG 3)<|au (gG 4) cm) (a6 (bq (aG mK (hG (dZ hr) (pv 2) (pv 3) a8 ⟨rfl,rfl,rfl,rfl⟩) (pv 4)<|aH _) (ae (gu d1 (by rfl) d0<|a4 (fF<|gf<|gh (pv 3)<|gf jV) a5)) az)
   (ae (yH (dZ hr) (pv 2) (pv 3) (pv 4) zg (λ_ _ _=>rfl)))))
   (ae (sy (i:=2) (ai (pv 2)))))),?_⟩
  have E0:Ext W0 W0:=.refl W0;unfold Eg at hq;refine bj<|kN (Er:=Er) (i5<|M0<|ba d4) (λp3 W1 e2 hp4 o5=>?_)
  have fr6:=none_of E0.h hp4;have E0:=E0.trans e2;have a3:=Gm e2.g a3;refine eo (Er:=Er) (f:=uF) (s0:=spools) (Iv:=λ(s9:cV)(b3:Wd)(d5:St)=>∃(a9:Option V)(b0:Option V),d5=[some d2,some d3,some<|.ref p3,a9,b0]/\Ext W0 b3/\OwD (λ(a:Tx)=>GU<|sOf a) isI b3 p3 s9) (x6 (K:=K) F0<|ba a3) (Gj hq) ?_ ?_ ?_
  ·intro e8 b4;have E0:=E0.trans b4;have o5:=o5.mono b4;exact⟨_,_,rfl,E0,o5⟩
  ·intro e9 f0 f1 a7 f2 s8 f3 f4 f5 a1 iv b1 d6 hq;obtain⟨a9,b0,rfl,E0,a0⟩:=iv;have E0:=E0.trans b1;have a1:=a1.trans b1.g;have a0:=a0.mono b1;refine lI d6 λf6 f7 d7 d8=>?_;cases d7;cases d8;unfold uF at hq;refine br (Er:=Er) (aI<|eO (i4 gQ kS (ow a0) cS af) bO)<|λf8 b2=>?_;have E0:=E0.trans b2;have a1:=a1.trans b2.g;have a0:=a0.mono b2;by_cases b5:(decide<|cf s8 a7.1 (0:Int)<a7.2)=true
   ·rw[Z1 b5]at hq ⊢;exact gw (Er:=Er) (j:=6) (hEr.mono E0) rfl (fG (gi (x:=Gq "the spool of ") (l:=[116,104,101,32,115,112,111,111,108,32,111,102,32]) (cQ _ _ ⋯) (iD cS (gi (x:=Gq " falls short") (l:=[32,102,97,108,108,115,32,115,104,111,114,116]) (cQ _ _ ⋯) jW)))) hq
   ·rw[Z2 b5]at hq ⊢
    try dsimp only[aD]
    refine zd (Er:=Er) (f:=λi j=>i-j) gQ kS a0 cS bO<|(Gj hq).imp λd9 hq e0 b6 e1=>?_;have E0:=b6.e _ E0 fr6;have a1:=a1.trans b6.g
    try dsimp only
    refine ee (W:=e0) d9 a1 ?_ hq;exact⟨_,_,rfl,E0,e1⟩
  ·intro f9 g0 g1 g2 iv hq;obtain⟨a9,b0,rfl,E0,a0⟩:=iv;refine sA a0 E0 fr6 λg3 E0 g4 e3 g5=>?_;exact aA (Er:=Er) (ba e3)<|λe4 e5 e6 e7=>hq e4 e5 (E0.trans e6) e7
theorem FX{f:Addr}{fd:GJ}(F:Fun K "turned" "turned" (tp 24) f fd){a1:Tok}(a2:mg "HOLES"=some (.int 4 a1)){a0:Addr}(a3:mg "STEPS"=some (.ref a0))(a7:DictK K w a0 [(GU<|Gq "f",.int<|1),(GU<|Gq "b",.int<|-1),(GU<|Gq "i",.int<|0)]):FnOk P w K mg base CX0 (1) f fd ["tablet","turn"] (cB (qA K) isS (rs<|qA K)<|Eh):=by
 have SC:FnScope ["tablet","turn","lay","holes","stand"] ["tablet","turn"] (defScope<|tp 24):=by walk_at "F"
 refine F.ok SC (λvs H Q E h=>?_)<|λZ9 A outer s H vs Q E hr h=>?_;·obtain⟨_,_,_,_,_,_,rfl,_⟩:=h;rfl
 ·obtain⟨W0,tablet,turn,b5,_,rfl,rfl,a8,a9,Er,hq⟩:=h;cases a9;refine⟨_,(a6 (gU (pv 0)<|cD (K:=K) (n:=3) rfl rfl<|au (gG 2)<|au (gG 3)<|au (gG 4) cm)
   (ae (ai (aT (a4 (pv 2) (a4 (pv 3) (a4 (ag aX (ag cv (pv 4) (iu (K:=K) (w:=w) rfl rfl (bQ (v:=.ref _) (by rfl) a3 rfl) (pv 1) (λ_ _=>rfl))) (bQ (v:=.int 4) (by rfl) a2 ⟨_,rfl⟩)) a5))))))),?_⟩
  have E0:Ext W0 W0:=.refl W0;unfold Eh at hq;refine gq (Er:=Er) (ba a8)<|λv1 W2 e3 h4=>?_;have E0:=E0.trans e3;refine pA h4 λv5 v7 v9 h6 h8 b0=>?_;cases h6;cases h8;cases b0;exact aA (Er:=Er) (fB (K:=K) cS cS (aE (λ_=>by decide) (bG bO (n0 a7 ⋯ cS))))<|GP hq λb6 hq b1 b2 b3 b4=>hq b1 b2 (E0.trans b3) b4
theorem Dh{f:Addr}{fd:GJ}(F:Fun K "top" "top" (tp 21) f fd){a0:Tok}(a1:mg "HOLES"=some (.int 4 a0)):FnOk P w K mg base CX0 (1) f fd ["tablet"] (dY (qA K) (rs isS)<|sH):=by
 have SC:FnScope ["tablet","lay","holes","stand"] ["tablet"] (defScope<|tp 21):=by walk_at "F"
 refine F.ok SC (λvs H Q E h=>?_)<|λZ9 A outer s H vs Q E hr h=>?_;·obtain⟨_,_,_,_,rfl,_⟩:=h;rfl
 ·obtain⟨W0,tablet,a9,rfl,rfl,a2,Er,hq⟩:=h;refine⟨_,(a6 (gU (pv 0)<|cD (K:=K) (n:=3) rfl rfl<|au (gG 1)<|au (gG 2)<|au (gG 3) cm)
   (ae (ai (av dg (pv 2) (ag aX (pv 3) (bQ (v:=.int 4) (by rfl) a1 ⟨_,rfl⟩)) (λ_ _=>rfl))))),?_⟩
  have E0:Ext W0 W0:=.refl W0;unfold sH at hq;refine gq (Er:=Er) (ba a2)<|λv1 W2 e3 h4=>?_;have E0:=E0.trans e3;refine pA h4 λv5 v7 v9 h6 h8 a3=>?_;cases h6;cases h8;cases a3;exact aA (Er:=Er) (dh cS (aE (λ_=>by decide) bO))<|GP hq λb0 hq a4 a5 a7 a8=>hq a4 a5 (E0.trans a7) a8
theorem FY{f:Addr}{fd:GJ}(F:Fun K "bottom" "bottom" (tp 22) f fd){a0:Tok}(a1:mg "HOLES"=some (.int 4 a0)):FnOk P w K mg base CX0 (1) f fd ["tablet"] (dY (qA K) (rs isS)<|Ei):=by
 have SC:FnScope ["tablet","lay","holes","stand"] ["tablet"] (defScope<|tp 22):=by walk_at "F"
 refine F.ok SC (λvs H Q E h=>?_)<|λZ9 A outer s H vs Q E hr h=>?_;·obtain⟨_,_,_,_,rfl,_⟩:=h;rfl
 ·obtain⟨W0,tablet,b0,rfl,rfl,a2,Er,hq⟩:=h;refine⟨_,(a6 (gU (pv 0)<|cD (K:=K) (n:=3) rfl rfl<|au (gG 1)<|au (gG 2)<|au (gG 3) cm)
   (ae (ai (av dg (pv 2) (ag aX (ag cv (pv 3) a8) (bQ (v:=.int 4) (by rfl) a1 ⟨_,rfl⟩)) (λ_ _=>rfl))))),?_⟩
  have E0:Ext W0 W0:=.refl W0;unfold Ei at hq;refine gq (Er:=Er) (ba a2)<|λv1 W2 e3 h4=>?_;have E0:=E0.trans e3;refine pA h4 λv5 v7 v9 h6 h8 a3=>?_;cases h6;cases h8;cases a3;exact aA (Er:=Er) (dh cS (aE (λ_=>by decide)<|bG bO af))<|GP hq λb1 hq a4 a5 a7 a9=>hq a4 a5 (E0.trans a7) a9
theorem FZ{f:Addr}{fd:GJ}(F:Fun K "left_place" "left_place" (tp 29) f fd){jz:Cd->Res Tx}{zA:Cd->Res Tx}{pZ:Cd->Tx->Res Int}(C_top:Cal P w K mg base "top" ["tablet"] (1) (dY (qA K) (rs isS) jz))(a2:Cal P w K mg base "bottom" ["tablet"] (1) (dY (qA K) (rs isS) zA))(a3:Cal P w K mg base "twisting" ["tablet","turn"] (1) (cB (qA K) isS (rs isI) pZ)){a1:Addr}(a6:mg "SLANTS"=some (.ref a1))(a7:DictK K w a1 [(Jf<|1,.str<|Gq "s"),(Jf<|-1,.str<|Gq "z"),(Jf<|0,.str<|Gq "o")]):FnOk P w K mg base CX0 (2) f fd ["tablet","turn"] (cB (qA K) isS (rs<|qB K)<|Ej jz zA pZ):=by
 have SC:FnScope ["tablet","turn"] ["tablet","turn"] (defScope<|tp 29):=by walk_at "F"
 refine F.ok SC (λvs H Q E h=>?_)<|λZ9 A outer s H vs Q E hr h=>?_;·obtain⟨_,_,_,_,_,_,rfl,_⟩:=h;rfl
 ·obtain⟨W0,tablet,turn,a9,_,rfl,rfl,a0,a8,Er,hq⟩:=h;cases a8;refine⟨_,(ae (ai (aT (a4 (eK C_top<|a4 (pv 0) a5) (a4 (eK a2<|a4 (pv 0) a5) (a4 (iu (K:=K) (w:=w) rfl rfl (bQ (v:=.ref _) (by rfl) a6 rfl) (eK a3<|a4 (pv 0)<|a4 (pv 1) a5)<|λ_ _=>rfl) a5)))))),?_⟩;have E0:Ext W0 W0:=.refl W0;unfold Ej at hq;exact aA (Er:=Er) (fB (K:=K) (dz<|ba a0) (dz<|ba a0) (ue a7 ⋯<|bM (ba a0) cS))<|GP hq λy5 hq v6 W7 e8 h9=>hq v6 W7 (E0.trans e8) h9
theorem G0{f:Addr}{fd:GJ}(F:Fun K "woven_stage" "woven_stage" (tp 33) f fd){yh:Tx->Int->Res Bool}{pZ:Cd->Tx->Res Int}{yi:cV->cV->Res cV}{xo:(List Cd)->Tx->Res cV}{xp:Cd->Tx->Res Cd}{yj:Cd->Tx->Res Pl}{c1 b2 c2 c3 c4 b3 c5 c6 c7 c8 c9 d0 d1:Addr}{a2:Addr}(d6:Cal P w K mg base "is_row" ["text","width"] (1) (cB isS isI (rs isB) yh))(d7:Cal P w K mg base "twisting" ["tablet","turn"] (1) (cB (qA K) isS (rs isI) pZ))(d8:CalR P w K mg base "drawn_off" ["spools","lengths"] (1) (mE kW kW [c1,b2,c2,c3,c4,b3,c5,c6,c7,c8,c9,d0,d1] (rs kW) yi))(d9:Cal P w K mg base "taken" ["draft","row"] (1) (cB (isL<|qA K) isS (rs kW) xo))(e0:Cal P w K mg base "turned" ["tablet","turn"] (1) (cB (qA K) isS (rs<|qA K) xp))(e1:Cal P w K mg base "left_place" ["tablet","turn"] (2) (cB (qA K) isS (rs<|qB K) yj))(e2:CalI P w K mg base "Stage" a2 ["self","deed","standing","reached","highest","lengths","pick"] (1) (uy a2 ["deed","standing","reached","highest","lengths","pick"]))(a3:Cls K a2)(e3:NoAttr K a2 "highest")(e5:NoAttr K a2 "lengths")(e7:NoAttr K a2 "reached")(b4:NoAttr K a2 "standing")(d2:mg "abs"=none)(e8:mg "any"=none)(e9:mg "len"=none)(f0:mg "max"=none)(b5:mg "zip"=none)(f1:mg "BadRow"=some (.ref b2))(f2:Ecl base b2)(f3:mg "TooTight"=some (.ref b3))(f4:Ecl base b3):FnOk P w K mg base (CXR P w) (3) f fd ["stage","row","most"] (yZ (aS K a2) isS isI [c1,b2,c2,c3,c4,b3,c5,c6,c7,c8,c9,d0,d1] (rs<|aS K a2)<|Ek yh pZ yi xo xp yj):=by
 have SC:FnScope ["stage","row","most","reached","lengths","highest","standing","pick"] ["stage","row","most"] (defScope<|tp 33):=by walk_at "F"
 refine F.okR SC (λvs H Q E h=>?_)<|λZ9 A outer s H vs Q E hr h=>?_;·obtain⟨_,_,_,_,_,_,_,_,rfl,_⟩:=h;rfl
 ·obtain⟨W0,stage,row,most,d3,_,_,rfl,rfl,a0,z_row,f5,Er,hEr,hq⟩:=h;cases z_row;cases f5
  refine⟨_,(a6 (bq (dN (cO (eK d6 (a4 (pv 1) (a4 (aj (bP (K:=K) rfl) (by rfl) e9 HH<|a4 (aM (K:=K) rfl (pv 0) rfl) a5) a5))))) (ae (gu f2 (by rfl) f1<|a4 ak a5)) az)
   (a6 (dP (i:=3) SC.nd rfl (by walk_at "L") (N:=["twist","tablet","turn"]) (cap:=[none,none,none]) (fu rfl ⋯ rfl ⋯ (by rfl) (by rfl)) rfl (rM (K:=K) rfl rfl b5<|a4 (aM (K:=K) rfl (pv 0) rfl)<|a4 (aM (K:=K) rfl (pv 0) rfl)<|a4 (pv 1) a5) (λ_ _ _ _=>(cD (K:=K) (n:=3) rfl rfl (au (aJ (i:=0) (show H9 (["twist","tablet","turn"]:List Str) by decide +kernel) rfl (by walk_at "L")) (au (aJ (i:=1) (show H9 (["twist","tablet","turn"]:List Str) by decide +kernel) rfl (by walk_at "L")) (au (aJ (i:=2) (show H9 (["twist","tablet","turn"]:List Str) by decide +kernel) rfl (by walk_at "L")) cm))))) (λ_ _ _ _=>cn)<|λ_ _ _ _=>(ag cv (pv 0)<|eK d7<|a4 (pv 1)<|a4 (pv 2) a5))
   (a6 (bq (cO (aj (ub (K:=K) rfl rfl) (by rfl) e8 Pz (a4 (d5 (N:=["twist","most"]) (cap:=[none,some 2]) (fu rfl ⋯ rfl ⋯ (by rfl) (by rfl)) rfl (cy (K:=K) rfl<|pv 3) (λ_ _ _ _=>(aJ (i:=0) (show H9 (["twist","most"]:List Str) by decide +kernel) rfl (by walk_at "L"))) (λ_ _ _ _=>cn) (λ_ _ _ _=>(eM oQ (aj gW (by rfl) d2 Jr<|a4 (pv 0) a5) (pv 1)<|aH _))) a5))) (ae (gu f4 (by rfl) f3<|a4 ak a5)) az)
   (a6 (fh 4 (kP d8 sj (hr.mono ⋯) (by rfl)<|a4 (aM (K:=K) rfl (pv 0) rfl)<|a4 (eK d9<|a4 (aM (K:=K) rfl (pv 0) rfl)<|a4 (pv 1) a5) a5))
   (a6 (dP (i:=5) SC.nd rfl (by walk_at "L") (N:=["peak","twist"]) (cap:=[none,none]) (fu rfl ⋯ rfl ⋯ (by rfl) (by rfl)) rfl (fA (K:=K) rfl rfl b5<|a4 (aM (K:=K) rfl (pv 0) rfl)<|a4 (pv 3) a5) (λ_ _ _ _=>(cD (K:=K) (n:=2) rfl rfl (au (aJ (i:=0) (show H9 (["peak","twist"]:List Str) by decide +kernel) rfl (by walk_at "L")) (au (aJ (i:=1) (show H9 (["peak","twist"]:List Str) by decide +kernel) rfl (by walk_at "L")) cm)))) (λ_ _ _ _=>cn) (λ_ _ _ _=>(aj (jJ rfl) (by rfl) f0 JU (a4 (pv 0) (a4 (aj gW (by rfl) d2 Jr<|a4 (pv 1) a5) a5)))))
   (a6 (dP (i:=6) SC.nd rfl (by walk_at "L") (N:=["tablet","turn"]) (cap:=[none,none]) (fu rfl ⋯ rfl ⋯ (by rfl) (by rfl)) rfl (fA (K:=K) rfl rfl b5<|a4 (aM (K:=K) rfl (pv 0) rfl)<|a4 (pv 1) a5) (λ_ _ _ _=>(cD (K:=K) (n:=2) rfl rfl (au (aJ (i:=0) (show H9 (["tablet","turn"]:List Str) by decide +kernel) rfl (by walk_at "L")) (au (aJ (i:=1) (show H9 (["tablet","turn"]:List Str) by decide +kernel) rfl (by walk_at "L")) cm)))) (λ_ _ _ _=>cn)<|λ_ _ _ _=>(eK e0<|a4 (pv 0)<|a4 (pv 1) a5))
   (a6 (dP (i:=7) SC.nd rfl (by walk_at "L") (N:=["tablet","turn"]) (cap:=[none,none]) (fu rfl ⋯ rfl ⋯ (by rfl) (by rfl)) rfl (fA (K:=K) rfl rfl b5<|a4 (pv 6)<|a4 (pv 1) a5) (λ_ _ _ _=>(cD (K:=K) (n:=2) rfl rfl (au (aJ (i:=0) (show H9 (["tablet","turn"]:List Str) by decide +kernel) rfl (by walk_at "L")) (au (aJ (i:=1) (show H9 (["tablet","turn"]:List Str) by decide +kernel) rfl (by walk_at "L")) cm)))) (λ_ _ _ _=>cn)<|λ_ _ _ _=>(eK e1<|a4 (pv 0)<|a4 (pv 1) a5))
   (ae (ai (kT e2 (hr.mono ⋯) (by rfl) (a4 (aT (a4 ak (a4 (pv 1) a5))) (a4 (pv 6) (a4 (pv 3) (a4 (pv 5) (a4 (pv 4) (a4 (pv 7) a5)))))))))))))))),?_⟩
  have E0:Ext W0 W0:=.refl W0;rw[show L2.start ["stage","row","most","reached","lengths","highest","standing","pick"] [d3,.str<|sOf row,.int most]=[some d3,some<|.str<|sOf row,some<|.int most,none,none,none,none,none]from rfl];unfold Ek at hq;refine br (Er:=Er) (fb<|iZ<|bM cS<|ff<|Jl<|cJ a3 b4 bU<|ba a0)<|(Gj hq).imp λy2 hq W3 e4=>?_;have E0:=E0.trans e4;have a0:=Gm e4.g a0;by_cases a9:y2=true
  ·rw[Z1 a9]at hq ⊢;exact gw (Er:=Er) (j:=1) (hEr.mono E0) rfl (aq (x:=Gq "a row has one turn for each tablet") (l:=[97,32,114,111,119,32,104,97,115,32,111,110,101,32,116,117,114,110,32,102,111,114,32,101,97,99,104,32,116,97,98,108,101,116]) (cQ _ _ ⋯)) hq
  ·rw[Z2 a9]at hq ⊢
   try dsimp only[aD]
   refine bj<|aR (Er:=Er) (HN (cF (rV (eP<|cJ a3 e7 fN<|ba a0) (eP<|cJ a3 b4 bU<|ba a0)<|hW cS) λW9 a7 v8 i7 f6 i8 f7=>by
    refine pA f6 λi9 f8 j0 f9 g0 g1=>?_;cases f9;cases g1;exact⟨by simp[Keep,bI],((bG bO (bM (ba g0) cS)):EV Er _ [some (.int a7.1),some f8,some (.str (sOf a7.2.2))] _ _ _) _ (.refl _) _ f7⟩)) ((Gj hq).imp λj1 hq j2 W5 e6 a1=>?_)
   have E0:=E0.trans e6;have a0:=Gm e6.g a0;refine br (Er:=Er) (iZ (AZ (JB (cF (dv<|ba a1) λj3 g2 j4 j6 g3 j7 g4=>by
    cases g3;refine gn ?_;exact⟨by simp[Keep,bI],((eO (lG bO) bO):EV Er _ [some (.int g2),some (.int most)] _ _ _) _ (.refl _) _ g4⟩)))) ((Gj hq).imp λg5 hq j8 b9=>?_)
   have E0:=E0.trans b9;have a0:=Gm b9.g a0;have a1:=Gm b9.g a1;by_cases a9:g5=true
   ·rw[Z1 a9]at hq ⊢;exact gw (Er:=Er) (j:=5) (hEr.mono E0) rfl (aq (x:=Gq "a tablet would be twisted too far") (l:=[97,32,116,97,98,108,101,116,32,119,111,117,108,100,32,98,101,32,116,119,105,115,116,101,100,32,116,111,111,32,102,97,114]) (cQ _ _ ⋯)) hq
   ·rw[Z2 a9]at hq ⊢
    try dsimp only[aD]
    refine bj<|aR (Er:=Er) (jU (hEr.mono E0) (cJ a3 e5 eX<|ba a0)<|bM (cJ a3 b4 bU<|ba a0) cS) ((Gj hq).imp λj9 hq k0 k1 c0 a8=>?_)
    have E0:=E0.trans c0;have a0:=Gm c0.g a0;have a1:=Gm c0.g a1;refine bj<|aR (Er:=Er) (HN (cF (hX (eP<|cJ a3 e3 fO<|ba a0)<|eP<|ba a1) λk2 d4 k3 k4 g6 k5 g7=>by
     refine lI g6 λk6 k7 g8 g9=>?_;cases g8;cases g9;exact⟨by simp[Keep,bI],((oi bO (lG bO)):EV Er _ [some (.int d4.1),some (.int d4.2)] _ _ _) _ (.refl _) _ g7⟩)) ((Gj hq).imp λk8 hq k9 l0 b6 b0=>?_)
    have E0:=E0.trans b6;have a0:=Gm b6.g a0;have a1:=Gm b6.g a1;have a8:=Gm b6.g a8;refine bj<|aR (Er:=Er) (HN (cF (hX (eP<|cJ a3 b4 bU<|ba a0)<|hW cS) λl1 h0 l2 l3 h1 l4 h2=>by
     refine lI h1 λh3 l5 h4 h5=>?_;cases h5;exact⟨by simp[Keep,bI],((bM (ba h4) cS):EV Er _ [some h3,some (.str (sOf h0.2))] _ _ _) _ (.refl _) _ h2⟩)) ((Gj hq).imp λl6 hq l7 l8 b7 b8=>?_)
    have E0:=E0.trans b7;have a1:=Gm b7.g a1;have a8:=Gm b7.g a8;have b0:=Gm b7.g b0;refine bj<|aR (Er:=Er) (HN (cF (hX (eP<|ba b8)<|hW cS) λl9 h6 m0 m1 h7 m2 h8=>by
     refine lI h7 λh9 m3 i0 i1=>?_;cases i1;exact⟨by simp[Keep,bI],((bM (ba i0) cS):EV Er _ [some h9,some (.str (sOf h6.2))] _ _ _) _ (.refl _) _ h8⟩)) ((Gj hq).imp λm4 hq m5 m6 b1 i2=>?_)
    have E0:=E0.trans b1;have a1:=Gm b1.g a1;have a8:=Gm b1.g a8;have b0:=Gm b1.g b0;have b8:=Gm b1.g b8;exact aA (Er:=Er) (lT (j5<|j5<|j5<|j5<|j5 Bd) (bJ (di (K:=K) (fk cR cR) (aZ (K:=K) (aq (x:=Gq "row") (l:=[114,111,119]) (cQ _ _ ⋯)) cS))<|bJ (ba b8)<|bJ (ba a1)<|bJ (ba b0)<|bJ (ba a8)<|lS<|wb<|ba i2))<|λi3 i4 i5 i6=>hq i3 i4 (E0.trans i5) i6
theorem G1{f:Addr}{fd:GJ}(F:Fun K "go_on" "Loom.go_on" (tq 38 2) f fd){a0 a1:Addr}(a7:Cls K a1)(a8:NoAttr K a1 "course")(a9:NoAttr K a1 "undone"):FnOk P w K mg base CX0 (1) f fd ["self","stages"] (uY (bL K a0 a1) (aC (isL<|aS K a0) aN) isN<|λst a=>CY st a.1):=by
 have SC:FnScope ["self","stages"] ["self","stages"] (defScope<|tq 38 2):=by walk_at "F"
 refine F.ok SC (λvs H Q E h=>?_)<|λZ9 A outer s H vs Q E hr h=>?_;·obtain⟨_,_,_,_,_,_,us,_,rfl,_,_,_,ra,_⟩:=h;obtain⟨_,us,rfl,_,ra⟩:=ra;cases ra;rfl
 ·obtain⟨W0,W,F,self,a3,aa,us,rfl,rfl,E0,nF,b0,ra,Er,hq⟩:=h;obtain⟨stages,_⟩:=aa;obtain⟨b1,us,rfl,a2,ra⟩:=ra;replace a2:(isL<|aS K a0) W.G stages b1:=a2;cases ra;replace hq:(CY self stages).OkE Er (EndO W0 W (bL K a0 a1) isN a3 Q):=hq;refine⟨_,(ae (bq (iG (K:=K) rfl<|pv 1) (a6 (bT<|gF (K:=K) rfl Ht Jc JA ir (aM (K:=K) rfl (pv 0) rfl)<|a4 (pv 1) a5)
   (ae (fI (pv 0) (bR a5) rfl))) az)),?_⟩
  have hS0:Same W.G W.G:=.refl _;have EW:Ext W W:=.refl _;have S:Sep W0 W [tc (bL K a0 a1) self a3]:=MU b0 nF;unfold CY at hq;refine pC (Er:=Er) (kU (K:=K)<|Jl<|ba a2)<|λW1 e2=>?_;have S:=S.ext e2;have E0:=E0.trans e2;have EW:=EW.trans e2;have hS0:=hS0.trans e2.g;have a2:=Gm e2.g a2;by_cases hb7:(!stages.isEmpty)=true
  ·rw[Z1 hb7]at hq ⊢;refine bj<|ze (Er:=Er) (K:=K) E0 (jv a7 a8 Z1w<|fM (R:=(bL K a0 a1)) (C:=λbb=>[tc (bL K a0 a1) bb a3]) (k:=0) S E0) (Jl<|ba a2) ((Gj hq).imp λy3 hq W4 hS5 E0 S=>?_)
   have S:Sep W0 W4 [tc (bL K a0 a1) y3 a3]:=S;have hS0:=hS0.trans hS5;refine uw (Er:=Er) (k:=0) a7 a9 (Z7G.lt) lY S E0 rfl (jt (R:=(fz<|aS K a0)))<|λW6 hS7 E0 S=>?_;have S:Sep W0 W6 [tc (bL K a0 a1) (y3.1,y3.2.1,y3.2.2.1,([]:List eW)) a3]:=S;have hS0:=hS0.trans hS7;exact Qi (k:=0) S rfl E0 hS0 rfl hq
  ·rw[Z2 hb7]at hq ⊢
   try dsimp only[aD]
   exact Qi (k:=0) S rfl E0 hS0 rfl hq
theorem G2{f:Addr}{fd:GJ}(F:Fun K "weave" "Loom.weave" (tq 38 3) f fd){sI:eW->Tx->Int->Res eW}{fT:Z02->Res eW}{oA:Z02->(List eW)->Res (Z02×Unit)}{a3 a7 a8 a9 b0 b1 b2 b3 b4 b5 b6 b7 b8:Addr}{a0 a1:Addr}(b9:CalR P w K mg base "woven_stage" ["stage","row","most"] (3) (yZ (aS K a0) isS isI [a3,a7,a8,a9,b0,b1,b2,b3,b4,b5,b6,b7,b8] (rs<|aS K a0) sI))(c0:CalM P w K mg base CX0 a1 "now" ["self"] (1) (gj (wC (vw<|bL K a0 a1) wN) (rs<|aS K a0)<|λa=>fT a.1))(c1:CalM P w K mg base CX0 a1 "go_on" ["self","stages"] (1) (uY (bL K a0 a1) (aC (isL<|aS K a0) aN) isN<|λst a=>oA st a.1))(c2:Cls K a1)(c3:Cls K a0)(c4:NoAttr K a1 "most")(c5:NoAttr K a0 "pick")(c6:mg "list"=none):FnOk P w K mg base (CXR P w) (4) f fd ["self","row"] (sx (bL K a0 a1) (aC isS aN) [a3,a7,a8,a9,b0,b1,b2,b3,b4,b5,b6,b7,b8] (qD K)<|λst a=>CZ sI fT oA st a.1):=by
 have SC:FnScope ["self","row","stage"] ["self","row"] (defScope<|tq 38 3):=by walk_at "F"
 refine F.okR SC (λvs H Q E h=>?_)<|λZ9 A outer s H vs Q E hr h=>?_;·obtain⟨_,_,_,_,_,_,us,_,rfl,_,_,_,ra,_⟩:=h;obtain⟨_,us,rfl,_,ra⟩:=ra;cases ra;rfl
 ·obtain⟨W0,W,F,self,a2,aa,us,rfl,rfl,E0,nF,c7,ra,Er,hEr,hq⟩:=h;obtain⟨row,_⟩:=aa;obtain⟨v_row,us,rfl,z_row,ra⟩:=ra;replace z_row:isS W.G row v_row:=z_row;cases ra;replace hq:(CZ sI fT oA self row).OkE Er (EndO W0 W (bL K a0 a1) (qD K) a2 Q):=hq;cases z_row
  refine⟨_,(a6 (fh 2 (kP b9 sj (hr.mono ⋯) (by rfl) (a4 (et c0 (hr.mono ⋯)<|pv 0)<|a4 (pv 1)<|a4 (aM (K:=K) rfl (pv 0) rfl) a5)))
   (a6 (bT (ju c1 (hr.mono ⋯) (pv 0)<|a4 (bR<|a4 (pv 2) a5) a5))
   (ae (ai (bF (cM (K:=K) rfl) (by rfl) c6 HI (a4 (aM (K:=K) rfl (pv 2) rfl) a5)))))),?_⟩
  have hS0:Same W.G W.G:=.refl _;have EW:Ext W W:=.refl _;have S:Sep W0 W [tc (bL K a0 a1) self a2]:=MU c7 nF;unfold CZ at hq;refine bj<|aR (Er:=Er) (uk (hEr.mono EW) (jw (bV<|bV<|bV gH) (cq (R:=(bL K a0 a1)) (k:=0) S) cE) cS<|eS<|eV c2 c4 Z4C.at_<|cq (R:=(bL K a0 a1)) (k:=0) S) ((Gj hq).imp λy4 hq v5 W1 e2 h6=>?_)
  have S:=S.ext e2;have E0:=E0.trans e2;have EW:=EW.trans e2;have hS0:=hS0.trans e2.g;refine bj<|pS (Er:=Er) (k:=0) (nr<|bV<|bV<|bV gH) S E0 rfl rfl (bJ (HN<|cZ<|bf (ba h6)<|cY (R:=(aS K a0))) fX) ((Gj hq).imp λy9 hq W7 hS8 E0 S=>?_)
  have S:Sep W0 W7 [tc (bL K a0 a1) y9.1 a2]:=S;have hS0:=hS0.trans hS8;have h6:=Gm hS8 h6;exact iF (Er:=Er) (k:=0) S rfl E0 hS0 (HN<|fi<|Jl<|wc<|cJ c3 c5 i9<|ba h6) hq
theorem G3{f:Addr}{fd:GJ}(F:Fun K "check_tablet" "check_tablet" (tp 35) f fd){a2 a3 a6 a7 a9 b0 b1 a0 b2 b3 b4 b5 b6:Addr}(b7:mg "len"=none)(b8:mg "NoTablet"=some (.ref a0))(b9:Ecl base a0):FnOk P w K mg base (CXR P w) (1) f fd ["draft","k"] (mE (isL<|qA K) isI [a2,a3,a6,a7,a9,b0,b1,a0,b2,b3,b4,b5,b6] (rs isN)<|D0):=by
 have SC:FnScope ["draft","k"] ["draft","k"] (defScope<|tp 35):=by walk_at "F"
 refine F.okR SC (λvs H Q E h=>?_)<|λZ9 A outer s H vs Q E hr h=>?_;·obtain⟨_,_,_,_,_,_,rfl,_⟩:=h;rfl
 ·obtain⟨W0,draft,k,c0,_,rfl,rfl,a1,z_k,Er,hEr,hq⟩:=h;cases z_k;refine⟨_,(ae (bq (N4 (l6 (aG mK (pv 1) a8<|aH _) (jF (aG vm (pv 1) (aj (bP (K:=K) rfl) (by rfl) b7 HH<|a4 (pv 0) a5)<|aH _)))) (ae (gu b9 (by rfl) b8<|a4 (fF<|gf<|gh (pv 1) jV) a5)) az)),?_⟩;have E0:Ext W0 W0:=.refl W0;unfold D0 at hq;refine pC (Er:=Er) (pw (aI<|eO bO af)<|aI<|eO bO<|ff<|Jl<|ba a1)<|(Gj hq).imp λy1 hq W2 e3=>?_;have E0:=E0.trans e3;have a1:=Gm e3.g a1;by_cases hb7:y1=true
  ·rw[Z1 hb7]at hq ⊢;exact gw (Er:=Er) (j:=7) (hEr.mono E0) rfl (fG (gi (x:=Gq "there is no tablet ") (l:=[116,104,101,114,101,32,105,115,32,110,111,32,116,97,98,108,101,116,32]) (cQ _ _ ⋯)<|jq bO jW)) hq
  ·rw[Z2 hb7]at hq ⊢
   try dsimp only[aD]
   exact hq .non W2 E0 rfl
theorem G4{f:Addr}{fd:GJ}(F:Fun K "flipped" "flipped" (tp 25) f fd){a2:Tok}(a0:mg "HOLES"=some (.int 4 a2)){a1:Addr}(a3:mg "OTHER_LAYS"=some (.ref a1))(a7:DictK K w a1 [(GU<|Gq "S",.str<|Gq "Z"),(GU<|Gq "Z",.str<|Gq "S")]):FnOk P w K mg base CX0 (1) f fd ["tablet"] (dY (qA K) (rs<|qA K)<|El):=by
 have SC:FnScope ["tablet","lay","holes","stand","mirrored"] ["tablet"] (defScope<|tp 25):=by walk_at "F"
 refine F.ok SC (λvs H Q E h=>?_)<|λZ9 A outer s H vs Q E hr h=>?_;·obtain⟨_,_,_,_,rfl,_⟩:=h;rfl
 ·obtain⟨W0,tablet,b7,rfl,rfl,a9,Er,hq⟩:=h;refine⟨_,(a6 (gU (pv 0)<|cD (K:=K) (n:=3) rfl rfl<|au (gG 1)<|au (gG 2)<|au (gG 3) cm)
   (a6 (fh 4<|ag aF (ag aF (ag aF (av dg (pv 2) a8<|λ_ _=>rfl)<|av dg (pv 2) a8<|λ_ _=>rfl)<|av dg (pv 2) a8<|λ_ _=>rfl)<|av dg (pv 2) a8<|λ_ _=>rfl)
   (ae (ai (aT (a4 (iu (K:=K) (w:=w) rfl rfl (bQ (v:=.ref _) (by rfl) a3 rfl) (pv 1) (λ_ _=>rfl)) (a4 (pv 4) (a4 (ag aX (ag gV (bQ (v:=.int 4) (by rfl) a0 ⟨_,rfl⟩) (pv 3)) (bQ (v:=.int 4) (by rfl) a0 ⟨_,rfl⟩)) a5)))))))),?_⟩
  have E0:Ext W0 W0:=.refl W0;unfold El at hq;refine gq (Er:=Er) (ba a9)<|λv1 W2 e3 h4=>?_;have E0:=E0.trans e3;refine pA h4 λv5 v7 v9 h6 h8 b0=>?_;cases h6;cases h8;cases b0;refine bj<|aR (Er:=Er) (bA (bA (bA (dh cS af)<|dh cS af)<|dh cS af)<|dh cS af) ((Gj hq).imp λb8 hq b9 c0 b1 b2=>?_)
  cases b2;have E0:=E0.trans b1;exact aA (Er:=Er) (fB (K:=K) (ud a7 ⋯ cS) cS (aE (λ_=>by decide)<|bG af bO))<|GP hq λc1 hq b3 b4 b5 b6=>hq b3 b4 (E0.trans b5) b6
theorem G5{f:Addr}{fd:GJ}(F:Fun K "flipped_stage" "flipped_stage" (tp 34) f fd){xr:(List Cd)->Int->Res Unit}{zB:Cd->Res Cd}{a3 a7 a8 a9 b0 b1 b2 b3 b4 b5 b6 b7 b8:Addr}{a1:Addr}(c3:CalR P w K mg base "check_tablet" ["draft","k"] (1) (mE (isL<|qA K) isI [a3,a7,a8,a9,b0,b1,b2,b3,b4,b5,b6,b7,b8] (rs isN) xr))(c4:Cal P w K mg base "flipped" ["tablet"] (1) (dY (qA K) (rs<|qA K) zB))(c5:CalI P w K mg base "Stage" a1 ["self","deed","standing","reached","highest","lengths","pick"] (1) (uy a1 ["deed","standing","reached","highest","lengths","pick"]))(a2:Cls K a1)(c6:NoAttr K a1 "highest")(c7:NoAttr K a1 "lengths")(c8:NoAttr K a1 "reached")(b9:NoAttr K a1 "standing")(c9:mg "list"=none):FnOk P w K mg base (CXR P w) (3) f fd ["stage","k"] (mE (aS K a1) isI [a3,a7,a8,a9,b0,b1,b2,b3,b4,b5,b6,b7,b8] (rs<|aS K a1)<|Em xr zB):=by
 have SC:FnScope ["stage","k","standing"] ["stage","k"] (defScope<|tp 34):=by walk_at "F"
 refine F.okR SC (λvs H Q E h=>?_)<|λZ9 A outer s H vs Q E hr h=>?_;·obtain⟨_,_,_,_,_,_,rfl,_⟩:=h;rfl
 ·obtain⟨W0,stage,k,d8,_,rfl,rfl,a0,z_k,Er,hEr,hq⟩:=h;cases z_k
  refine⟨_,(a6 (bT (kP c3 sj (hr.mono ⋯) (by rfl)<|a4 (aM (K:=K) rfl (pv 0) rfl)<|a4 (pv 1) a5))
   (a6 (fh 2 (bF (cM (K:=K) rfl) (by rfl) c9 HI<|a4 (aM (K:=K) rfl (pv 0) rfl) a5))
   (a6 (gU (eK c4<|a4 (av (bz (K:=K) rfl) (pv 2) (pv 1)<|λ_ _=>rfl) a5)<|vf (pv 2) (pv 1) oX)
   (ae (ai (kT c5 (hr.mono ⋯) (by rfl) (a4 (aT (a4 ak (a4 (pv 1) a5))) (a4 (pv 2) (a4 (aM (K:=K) rfl (pv 0) rfl) (a4 (aM (K:=K) rfl (pv 0) rfl) (a4 (aM (K:=K) rfl (pv 0) rfl) (a4 jD a5)))))))))))),?_⟩
  have E0:Ext W0 W0:=.refl W0;unfold Em at hq;refine u9 (Er:=Er) (jU (hEr.mono E0) (cJ a2 b9 bU<|ba a0) bO)<|(Gj hq).imp λy1 hq v2 W3 e4 h5=>?_;have E0:=E0.trans e4;have a0:=Gm e4.g a0;refine bj<|ji (Er:=Er) (fi<|Jl<|cJ a2 b9 bU<|ba a0) (λp8 W6 e7 hp9 c0=>?_)
  have c1:=none_of E0.h hp9;have E0:=E0.trans e7;have a0:=Gm e7.g a0;refine bj<|yS (Er:=Er) c0 (dz<|fc (nX c0) bO) bO ((Gj hq).imp λd9 hq e0 c2 d0=>?_)
  have E0:=c2.e _ E0 c1;have a0:=Gm c2.g a0;obtain⟨e1,d1,E0,d2,d3,e2⟩:=d0.frz E0 c1;rw[<-d1];have a0:=Gm d2 a0;exact aA (Er:=Er) (lT (j5<|j5<|j5<|j5<|j5 Bd) (bJ (di (K:=K) (fk cR pH) (aZ (K:=K) (aq (x:=Gq "flip") (l:=[102,108,105,112]) (cQ _ _ ⋯)) bO))<|bJ (ba d3)<|bJ (cJ a2 c8 fN<|ba a0)<|bJ (cJ a2 c6 fO<|ba a0)<|bJ (cJ a2 c7 eX<|ba a0)<|lS<|nY (R:=(qD K))))<|λd4 d5 d6 d7=>hq d4 d5 (E0.trans d6) d7
theorem G6{f:Addr}{fd:GJ}(F:Fun K "flip" "Loom.flip" (tq 38 4) f fd){oA:Z02->(List eW)->Res (Z02×Unit)}{va:eW->Int->Res eW}{fT:Z02->Res eW}{a3 a6 a7 a8 a9 b0 b1 b2 b3 b4 b5 b6 b7:Addr}{a0 a1:Addr}(b8:CalM P w K mg base CX0 a1 "go_on" ["self","stages"] (1) (uY (bL K a0 a1) (aC (isL<|aS K a0) aN) isN<|λst a=>oA st a.1))(b9:CalR P w K mg base "flipped_stage" ["stage","k"] (3) (mE (aS K a0) isI [a3,a6,a7,a8,a9,b0,b1,b2,b3,b4,b5,b6,b7] (rs<|aS K a0) va))(c0:CalM P w K mg base CX0 a1 "now" ["self"] (1) (gj (wC (vw<|bL K a0 a1) wN) (rs<|aS K a0)<|λa=>fT a.1))(c2:Cls K a1):FnOk P w K mg base (CXR P w) (4) f fd ["self","k"] (sx (bL K a0 a1) (aC isI aN) [a3,a6,a7,a8,a9,b0,b1,b2,b3,b4,b5,b6,b7] isN<|λst a=>D4 oA va fT st a.1):=by
 have SC:FnScope ["self","k"] ["self","k"] (defScope<|tq 38 4):=by walk_at "F"
 refine F.okR SC (λvs H Q E h=>?_)<|λZ9 A outer s H vs Q E hr h=>?_;·obtain⟨_,_,_,_,_,_,us,_,rfl,_,_,_,ra,_⟩:=h;obtain⟨_,us,rfl,_,ra⟩:=ra;cases ra;rfl
 ·obtain⟨W0,W,F,self,a2,aa,us,rfl,rfl,E0,nF,c1,ra,Er,hEr,hq⟩:=h;obtain⟨k,_⟩:=aa;obtain⟨v_k,us,rfl,z_k,ra⟩:=ra;replace z_k:isI W.G k v_k:=z_k;cases ra;replace hq:(D4 oA va fT self k).OkE Er (EndO W0 W (bL K a0 a1) isN a2 Q):=hq;cases z_k;refine⟨_,(ae (bT (ju b8 (hr.mono ⋯) (pv 0) (a4 (bR (a4 (kP b9 sj (hr.mono ⋯) (by rfl) (a4 (et c0 (hr.mono ⋯)<|pv 0)<|a4 (pv 1) a5)) a5)) a5)))),?_⟩;have hS0:Same W.G W.G:=.refl _;have EW:Ext W W:=.refl _;have S:Sep W0 W [tc (bL K a0 a1) self a2]:=MU c1 nF;unfold D4 at hq;refine pS (Er:=Er) (k:=0) (nr<|bV<|bV<|bV gH) S E0 rfl rfl (bJ (HN<|cZ<|bf (jU (hEr.mono EW) (jw (bV<|bV<|bV gH) (cq (R:=(bL K a0 a1)) (k:=0) S) cE) bO)<|cY (R:=(aS K a0))) fX)<|(Gj hq).imp λy5 hq W3 hS4 E0 S=>?_;have S:Sep W0 W3 [tc (bL K a0 a1) y5.1 a2]:=S;have hS0:=hS0.trans hS4;exact Qi (k:=0) S rfl E0 hS0 rfl hq
theorem G7{f:Addr}{fd:GJ}(F:Fun K "undo" "Loom.undo" (tq 38 6) f fd){b1 b2 b3 b4 b5 b6 b7 b8 a3 b9 c0 c1 c2:Addr}{a1 a0:Addr}(a7:Cls K a0)(c3:Cls K a1)(a8:NoAttr K a0 "course")(c4:NoAttr K a0 "undone")(c5:NoAttr K a1 "deed")(c6:mg "NothingLeft"=some (.ref a3))(c7:Ecl base a3):FnOk P w K mg base (CXR P w) (1) f fd ["self"] (sx (bL K a1 a0) aN [b1,b2,b3,b4,b5,b6,b7,b8,a3,b9,c0,c1,c2] (isU K)<|λst a=>D5 st):=by
 have SC:FnScope ["self","stage"] ["self"] (defScope<|tq 38 6):=by walk_at "F"
 refine F.okR SC (λvs H Q E h=>?_)<|λZ9 A outer s H vs Q E hr h=>?_;·obtain⟨_,_,_,_,_,_,us,_,rfl,_,_,_,ra,_⟩:=h;cases ra;rfl
 ·obtain⟨W0,W,F,self,a2,aa,us,rfl,rfl,E0,nF,c8,ra,Er,hEr,hq⟩:=h;cases ra;replace hq:(D5 self).OkE Er (EndO W0 W (bL K a1 a0) (isU K) a2 Q):=hq
  refine⟨_,(a6 (bq (dN<|iG (K:=K) rfl<|aM (K:=K) rfl (pv 0) rfl) (ae (gu c7 (by rfl) c6<|a4 ak a5)) az)
   (a6 (fh 1<|iw (K:=K) rfl Ht Jw JW nP<|aM (K:=K) rfl (pv 0) rfl)
   (a6 (bT<|cj (K:=K) rfl (aM (K:=K) rfl (pv 0) rfl)<|a4 (pv 1) a5)
   (ae (ai (aM (K:=K) rfl (pv 1) rfl)))))),?_⟩
  have hS0:Same W.G W.G:=.refl _;have EW:Ext W W:=.refl _;have S:Sep W0 W [tc (bL K a1 a0) self a2]:=MU c8 nF;unfold D5 at hq;refine br (Er:=Er) (fb<|kU (K:=K)<|eU<|eV a7 a8 Z1w.at_<|cq (R:=(bL K a1 a0)) (k:=0) S)<|λW1 e2=>?_;have S:=S.ext e2;have E0:=E0.trans e2;have EW:=EW.trans e2;have hS0:=hS0.trans e2.g;by_cases a9:(!(!self.2.2.1.isEmpty))=true
  ·rw[Z1 a9]at hq ⊢;exact gw (Er:=Er) (j:=8) (hEr.mono EW) rfl (aq (x:=Gq "there is nothing to undo") (l:=[116,104,101,114,101,32,105,115,32,110,111,116,104,105,110,103,32,116,111,32,117,110,100,111]) (cQ _ _ ⋯)) hq
  ·rw[Z2 a9]at hq ⊢
   try dsimp only[aD]
   refine bj<|nj (Er:=Er) (K:=K) (j:=1) E0 (jv a7 a8 Z1w<|fM (R:=(bL K a1 a0)) (C:=λbb=>[tc (bL K a1 a0) bb a2]) (k:=0) S E0) ((Gj hq).imp λy3 hq v4 W5 hS6 E0 S h7=>?_)
   have S:Sep W0 W5 [tc (bL K a1 a0) y3.1 a2]:=S;have hS0:=hS0.trans hS6;refine bj<|kQ (Er:=Er) (K:=K) E0 (jv a7 c4 Z3j<|fM (R:=(bL K a1 a0)) (C:=λbb=>[tc (bL K a1 a0) bb a2]) (k:=0) S E0) (ba h7) ((Gj hq).imp λy8 hq W9 b0 E0 S=>?_)
   have S:Sep W0 W9 [tc (bL K a1 a0) y8 a2]:=S;have hS0:=hS0.trans b0;have h7:=Gm b0 h7;exact iF (Er:=Er) (k:=0) S rfl E0 hS0 (cJ c3 c5 i8<|ba h7) hq
theorem G8{f:Addr}{fd:GJ}(F:Fun K "redo" "Loom.redo" (tq 38 7) f fd){b1 b2 b3 b4 b5 b6 b7 b8 a3 b9 c0 c1 c2:Addr}{a1 a0:Addr}(a7:Cls K a0)(c3:Cls K a1)(c4:NoAttr K a0 "course")(a8:NoAttr K a0 "undone")(c5:NoAttr K a1 "deed")(c6:mg "NothingLeft"=some (.ref a3))(c7:Ecl base a3):FnOk P w K mg base (CXR P w) (1) f fd ["self"] (sx (bL K a1 a0) aN [b1,b2,b3,b4,b5,b6,b7,b8,a3,b9,c0,c1,c2] (isU K)<|λst a=>D6 st):=by
 have SC:FnScope ["self","stage"] ["self"] (defScope<|tq 38 7):=by walk_at "F"
 refine F.okR SC (λvs H Q E h=>?_)<|λZ9 A outer s H vs Q E hr h=>?_;·obtain⟨_,_,_,_,_,_,us,_,rfl,_,_,_,ra,_⟩:=h;cases ra;rfl
 ·obtain⟨W0,W,F,self,a2,aa,us,rfl,rfl,E0,nF,c8,ra,Er,hEr,hq⟩:=h;cases ra;replace hq:(D6 self).OkE Er (EndO W0 W (bL K a1 a0) (isU K) a2 Q):=hq
  refine⟨_,(a6 (bq (dN<|iG (K:=K) rfl<|aM (K:=K) rfl (pv 0) rfl) (ae (gu c7 (by rfl) c6<|a4 ak a5)) az)
   (a6 (fh 1<|iw (K:=K) rfl Ht Jw JW nP<|aM (K:=K) rfl (pv 0) rfl)
   (a6 (bT<|cj (K:=K) rfl (aM (K:=K) rfl (pv 0) rfl)<|a4 (pv 1) a5)
   (ae (ai (aM (K:=K) rfl (pv 1) rfl)))))),?_⟩
  have hS0:Same W.G W.G:=.refl _;have EW:Ext W W:=.refl _;have S:Sep W0 W [tc (bL K a1 a0) self a2]:=MU c8 nF;unfold D6 at hq;refine br (Er:=Er) (fb<|kU (K:=K)<|eU<|eV a7 a8 Z3j.at_<|cq (R:=(bL K a1 a0)) (k:=0) S)<|λW1 e2=>?_;have S:=S.ext e2;have E0:=E0.trans e2;have EW:=EW.trans e2;have hS0:=hS0.trans e2.g;by_cases a9:(!(!self.2.2.2.isEmpty))=true
  ·rw[Z1 a9]at hq ⊢;exact gw (Er:=Er) (j:=8) (hEr.mono EW) rfl (aq (x:=Gq "there is nothing to redo") (l:=[116,104,101,114,101,32,105,115,32,110,111,116,104,105,110,103,32,116,111,32,114,101,100,111]) (cQ _ _ ⋯)) hq
  ·rw[Z2 a9]at hq ⊢
   try dsimp only[aD]
   refine bj<|nj (Er:=Er) (K:=K) (j:=1) E0 (jv a7 a8 Z3j<|fM (R:=(bL K a1 a0)) (C:=λbb=>[tc (bL K a1 a0) bb a2]) (k:=0) S E0) ((Gj hq).imp λy3 hq v4 W5 hS6 E0 S h7=>?_)
   have S:Sep W0 W5 [tc (bL K a1 a0) y3.1 a2]:=S;have hS0:=hS0.trans hS6;refine bj<|kQ (Er:=Er) (K:=K) E0 (jv a7 c4 Z1w<|fM (R:=(bL K a1 a0)) (C:=λbb=>[tc (bL K a1 a0) bb a2]) (k:=0) S E0) (ba h7) ((Gj hq).imp λy8 hq W9 b0 E0 S=>?_)
   have S:Sep W0 W9 [tc (bL K a1 a0) y8 a2]:=S;have hS0:=hS0.trans b0;have h7:=Gm b0 h7;exact iF (Er:=Er) (k:=0) S rfl E0 hS0 (cJ c3 c5 i8<|ba h7) hq
theorem G9{f:Addr}{fd:GJ}(F:Fun K "_law_try_deed" "_law_try_deed" (tp 65) f fd){xq:Z02->Tx->Res (Z02×(List Pl))}{xt:Z02->Int->Res (Z02×Unit)}{yk:Z02->Res (Z02×Dat)}{yl:Z02->Res (Z02×Dat)}{a3 a7 a9 b0 b1 b2 b3 b4 b5 b6 b7 b8 b9 c5:Addr}{a2 a0:Addr}(d2:CalM P w K mg base (CXR P w) a0 "weave" ["self","row"] (4) (sx (bL K a2 a0) (aC isS aN) [a3,a7,a9,b0,b1,b2,b3,b4,b5,b6,b7,b8,b9] (qD K)<|λst a=>xq st a.1))(d3:CalM P w K mg base (CXR P w) a0 "flip" ["self","k"] (4) (sx (bL K a2 a0) (aC isI aN) [a3,a7,a9,b0,b1,b2,b3,b4,b5,b6,b7,b8,b9] isN<|λst a=>xt st a.1))(d4:CalM P w K mg base (CXR P w) a0 "undo" ["self"] (1) (sx (bL K a2 a0) aN [a3,a7,a9,b0,b1,b2,b3,b4,b5,b6,b7,b8,b9] (isU K)<|λst a=>yk st))(d5:CalM P w K mg base (CXR P w) a0 "redo" ["self"] (1) (sx (bL K a2 a0) aN [a3,a7,a9,b0,b1,b2,b3,b4,b5,b6,b7,b8,b9] (isU K)<|λst a=>yl st))(e2:Cls K a0)(Z:Kin K base [a3,a7,a9,b0,b1,b2,b3,b4,b5,b6,b7,b8,b9] c5)(d6:mg "BandError"=some (.ref c5))(d7:CalH P w K mg base "_law_kinds" ["_law_e"] 1 (iC K [a3,a7,a9,b0,b1,b2,b3,b4,b5,b6,b7,b8,b9] c5)):FnOk P w K mg base CX0 (5) f fd ["_law_loom","_law_deed_here"] (uY (bL K a2 a0) (aC (isU K) aN) (isU K)<|λst a=>Ai xq xt yk yl st a.1):=by
 have SC:FnScope ["_law_loom","_law_deed_here","_law_found","_law_e"] ["_law_loom","_law_deed_here"] (defScope<|tp 65):=by walk_at "F"
 obtain⟨bmB,XB⟩:=Z.top;refine F.ok SC (λvs H Q E h=>?_)<|λZ9 A outer s H vs Q E hr h=>?_;·obtain⟨_,_,_,_,_,_,us,_,rfl,_,_,_,ra,_⟩:=h;obtain⟨_,us,rfl,_,ra⟩:=ra;cases ra;rfl
 ·obtain⟨W0,W,F,c8,a1,aa,us,rfl,rfl,E0,nF,d8,ra,Er,hq⟩:=h;obtain⟨c9,_⟩:=aa;obtain⟨c0,us,rfl,c4,ra⟩:=ra;replace c4:(isU K) W.G c9 c0:=c4;cases ra;replace hq:(Ai xq xt yk yl c8 c9).OkE Er (EndO W0 W (bL K a2 a0) (isU K) a1 Q):=hq
  refine⟨_,(a6 (B4 (i:=3) (E:=EX K [a3,a7,a9,b0,b1,b2,b3,b4,b5,b6,b7,b8,b9] [114,101,102,117,115,101,100] W Q) ⟨rfl,rfl⟩ (λ_=>(ae (bq (aG cK (av (aw (K:=K) rfl) (pv 1) a8<|λ_ _=>rfl) ak<|aH _) (ae (fh 2 (pP d2 so (hr.mono ⋯) (pv 0)<|a4 (av (aw (K:=K) rfl) (pv 1) a8<|λ_ _=>rfl) a5))) (ae (bq (aG cK (av (aw (K:=K) rfl) (pv 1) a8<|λ_ _=>rfl) ak<|aH _) (ae (fh 2 (pP d3 so (hr.mono ⋯) (pv 0)<|a4 (av (aw (K:=K) rfl) (pv 1) a8<|λ_ _=>rfl) a5))) (ae (bq (aG cK (av (aw (K:=K) rfl) (pv 1) a8<|λ_ _=>rfl) ak<|aH _) (ae (fh 2 (nt d4 so (hr.mono ⋯)<|pv 0))) (ae (fh 2 (nt d5 so (hr.mono ⋯)<|pv 0)))))))))) (by rfl) d6 XB (EX.cl Z) SC.nd rfl rfl (λx C od oe hh=>(ae (ai (aT (a4 ak (a4 (z6 d7 hh ((hr.mono ⋯).h _) rfl (GD ..) (by rfl)<|a4 (pv 3) a5) a5)))))))
   (ae (ai (aT (a4 ak (a4 (pv 2) a5)))))),?_⟩
  have hS0:Same W.G W.G:=.refl _;have EW:Ext W W:=.refl _;have S:Sep W0 W [tc (bL K a2 a0) c8 a1]:=MU d8 nF;rw[show L2.start ["_law_loom","_law_deed_here","_law_found","_law_e"] [a1,c0]=[some a1,some c0,none,none]from rfl];unfold Ai at hq;refine zb (Er:=Er) (K:=K) (base:=base) (RR:=(isU K)) (k:=0) (s:=[114,101,102,117,115,101,100]) (σ':=λv1=>[some a1,some c0,some v1,none]) S E0 hS0 rfl Z (cQ _ _ ⋯) rfl (λEr hE8 D hq=>?_)<|(Gj hq).imp λr5 hq=>?_
  ·have eT:Ext W W:=.refl _;refine((aI (fL (dR (K:=K) gs<|dG (ba c4) af) (aq (x:=Gq "row") (l:=[114,111,119]) (cQ _ _ ⋯)))):TV Er _ [some a1,some c0,none,none] W _) W (.refl _) _ ((Gj hq).imp λd9 hq d0 c1=>?_);have S:=S.ext c1;have E0:=E0.trans c1;have eT:=eT.trans c1;have hE8:=hE8.mono c1;have c6:=Gm c1.g c4;cases d9 with
   |true=>
    rw[Z1 rfl]at hq ⊢;exact jy (Er:=Er) (K:=K) (k:=0) (j:=2) (u:=λ(z:List Pl)=>KO<|z.map λ(z:Pl)=>Je [HM z.1,HM z.2.1,HM z.2.2]) (jm (u:=λ(z:Pl)=>Je [HM z.1,HM z.2.1,HM z.2.2])<|Aa cR cR cR) (nr<|bV<|bV<|bV gH) S E0 rfl rfl (bJ (dR (K:=K) gs<|dG (ba c6) af) fX) hE8<|hq.imp λr kr u W' e hs S' hr=>kr u W' e (eT.g.trans hs) S' hr
   |false=>
    rw[Z2 GN]at hq ⊢;refine((aI (fL (dR (K:=K) gs<|dG (ba c6) af) (aq (x:=Gq "flip") (l:=[102,108,105,112]) (cQ _ _ ⋯)))):TV Er _ [some a1,some c0,none,none] d0 _) d0 (.refl _) _ ((Gj hq).imp λe0 hq d1 c2=>?_);have S:=S.ext c2;have E0:=E0.trans c2;have eT:=eT.trans c2;have hE8:=hE8.mono c2;have c7:=Gm c2.g c6;cases e0 with
    |true=>
     rw[Z1 rfl]at hq ⊢;exact jy (Er:=Er) (K:=K) (k:=0) (j:=2) (u:=λ(z:Unit)=>O8) wx (nr<|bV<|bV<|bV gH) S E0 rfl rfl (bJ (dR (K:=K) pI<|dG (ba c7) af) fX) hE8<|hq.imp λr kr u W' e hs S' hr=>kr u W' e (eT.g.trans hs) S' hr
    |false=>
     rw[Z2 GN]at hq ⊢;refine((aI (fL (dR (K:=K) gs<|dG (ba c7) af) (aq (x:=Gq "undo") (l:=[117,110,100,111]) (cQ _ _ ⋯)))):TV Er _ [some a1,some c0,none,none] d1 _) d1 (.refl _) _ ((Gj hq).imp λe1 hq e3 c3=>?_);have S:=S.ext c3;have E0:=E0.trans c3;have eT:=eT.trans c3;have hE8:=hE8.mono c3;have e4:=Gm c3.g c7;cases e1 with
     |true=>
      rw[Z1 rfl]at hq ⊢;exact jy (Er:=Er) (K:=K) (k:=0) (j:=2) (u:=λ(z:Dat)=>z) lM (nr<|bV<|bV<|bV gH) S E0 rfl rfl fX hE8<|hq.imp λr kr u W' e hs S' hr=>kr u W' e (eT.g.trans hs) S' hr
     |false=>
      rw[Z2 GN]at hq ⊢;exact jy (Er:=Er) (K:=K) (k:=0) (j:=2) (u:=λ(z:Dat)=>z) lM (nr<|bV<|bV<|bV gH) S E0 rfl rfl fX hE8<|hq.imp λr kr u W' e hs S' hr=>kr u W' e (eT.g.trans hs) S' hr
  ·cases r5 with
   |inr j7=>exact hq
   |inl y6=>
    intro v1 W2 E0 hS3 S h4;dsimp only at hq;have S:Sep W0 W2 [tc (bL K a2 a0) y6.1 a1]:=S;have hS0:=hS0.trans hS3;exact iF (Er:=Er) (k:=0) S rfl E0 hS0 (di (K:=K) (fk cR lM) (aZ (K:=K) (aq (x:=Gq "told") (l:=[116,111,108,100]) (cQ _ _ ⋯))<|ba h4)) hq
theorem Ga{f:Addr}{fd:GJ}(F:Fun K "_law_rows_of" "_law_rows_of" (tp 63) f fd){mH:(List Cd)->Tx->Res (List Pl)}(b0:Cal P w K mg base "_law_pick" ["_law_cards","_law_row_here"] (3) (cB (isL<|qA K) isS (ro<|qB K) mH)):FnOk P w K mg base CX0 (4) f fd ["_law_stack"] (gj (wC (pk<|isT2 K (kq K)<|isU K) wN) (ro<|qD K)<|λa=>D7 mH a.1):=by
 have SC:FnScope ["_law_stack"] ["_law_stack"] (defScope<|tp 63):=by walk_at "F"
 refine F.ok SC (λvs H Q E h=>?_)<|λZ9 A outer s H vs Q E hr h=>?_;·obtain⟨_,_,_,ra,_⟩:=h;obtain⟨_,us,rfl,_,ra⟩:=ra;cases ra;rfl
 ·obtain⟨W0,aa,rfl,ra,Er,hq⟩:=h;obtain⟨a7,_⟩:=aa;obtain⟨a0,us,rfl,a2,ra⟩:=ra;replace a2:(pk<|isT2 K (kq K)<|isU K) W0 a7 a0:=a2;cases ra;replace hq:(D7 mH a7).OkE Er (λr=>(ro<|qD K) W0 r Q):=hq;refine⟨_,(ae (ai (d5 (N:=["_law_one"]) (cap:=[none]) (fu rfl ⋯ rfl ⋯ (by rfl) (by rfl)) rfl (cy (K:=K) rfl<|pv 0) (λ_ _ _ _=>(aJ (i:=0) (show H9 (["_law_one"]:List Str) by decide +kernel) rfl (by walk_at "L"))) (λ_ _ _ _=>(kM<|aG cK (av (aw (K:=K) rfl) (av (aw (K:=K) rfl) (pv 0) a8<|λ_ _=>rfl) a8<|λ_ _=>rfl) ak<|aH _))<|λ_ _ _ _=>(eK b0<|a4 (av (aw (K:=K) rfl) (av (aw (K:=K) rfl) (pv 0) a8<|λ_ _=>rfl) a8<|λ_ _=>rfl)<|a4 (av (aw (K:=K) rfl) (av (aw (K:=K) rfl) (pv 0) a8<|λ_ _=>rfl) a8<|λ_ _=>rfl) a5)))),?_⟩;have E0:Ext W0 W0:=.refl W0;rw[show L2.start ["_law_stack"] [a0]=[some a0]from rfl];unfold D7 at hq;exact iz (Er:=Er) (jZ (lU (K:=K)<|aY (R:=(pk<|isT2 K (kq K)<|isU K))<|GX E0 a2) λW3 a1 v2 e4 h5 c3 b1=>by
   refine gn ?_;refine⟨by simp[Keep,bI],((aI (fL (dR (K:=K) gs<|dG (bt (f:=λ(b:ef×Dat)=>b.2) tY<|ba h5) af) (aq (x:=Gq "row") (l:=[114,111,119]) (cQ _ _ ⋯)))):TV Er _ [some v2] _ _) _ (.refl _) _ (GP (P:=λa3=>(if a3=true then((((jl a1.2 (1:Int)).bind λy8=>fR<|oK y8).bind λy9=>mH a1.1.1 y9).bind λb2=>Gr<|some b2)else Gr none:Res (Option<|List Pl)).OkE Er _) (Gj b1) λa3 a9 b3 a6=>?_)⟩;cases a3 with
   |false=>exact a9 none _ a6 trivial
   |true=>
    rw[Z1 rfl];refine EV.go (Er:=Er) (Y:=[some v2]) (W1:=b3) a6 (HN (mY (bt (f:=λ(b:(List Cd)×(List Int)×(List Int)×cV)=>b.1) uf (bt (f:=λ(b:ef×Dat)=>b.1) AW (ba h5))) (dR (K:=K) gs (dG (bt (f:=λ(b:ef×Dat)=>b.2) tY (ba h5)) af)))) ?_;exact(Gj (show(PR _ _).OkE Er _ from a9)).imp λc4 b4 b5 c5 b6 b7=>b4 (some b5) _ (a6.trans b6) b7) (GP hq λc6 hq b8 b9 c0 c1 c2=>hq b8 b9 (E0.trans c0) (none_of E0.h c1) c2)
theorem Gb{f:Addr}{fd:GJ}(F:Fun K "tablets" "Loom.tablets" (tq 38 8) f fd){fT:Z02->Res eW}{a0 a1:Addr}(a3:CalM P w K mg base CX0 a1 "now" ["self"] (1) (gj (wC (vw<|bL K a0 a1) wN) (rs<|aS K a0)<|λa=>fT a.1))(b0:Cls K a1)(a6:Cls K a0)(a7:NoAttr K a0 "standing")(a8:mg "list"=none):FnOk P w K mg base CX0 (2) f fd ["self"] (gj (wC (vw<|bL K a0 a1) wN) (ro<|qA K)<|λa=>D8 fT a.1):=by
 have SC:FnScope ["self"] ["self"] (defScope<|tq 38 8):=by walk_at "F"
 refine F.ok SC (λvs H Q E h=>?_)<|λZ9 A outer s H vs Q E hr h=>?_;·obtain⟨_,_,_,ra,_⟩:=h;obtain⟨_,us,rfl,_,ra⟩:=ra;cases ra;rfl
 ·obtain⟨W0,aa,rfl,ra,Er,hq⟩:=h;obtain⟨self,_⟩:=aa;obtain⟨a9,us,rfl,a2,ra⟩:=ra;replace a2:(vw<|bL K a0 a1) W0 self a9:=a2;cases ra;replace hq:(D8 fT self).OkE Er (λr=>(ro<|qA K) W0 r Q):=hq;refine⟨_,(ae (ai (bF (cM (K:=K) rfl) (by rfl) a8 HI (a4 (aM (K:=K) rfl (et a3 (hr.mono ⋯)<|pv 0) rfl) a5)))),?_⟩;have E0:Ext W0 W0:=.refl W0;unfold D8 at hq;exact iz (Er:=Er) (fi<|Jl<|cJ a6 a7 bU<|jw (bV<|bV<|bV gH) (aY (R:=(vw<|bL K a0 a1))<|GX E0 a2) cE)<|GP hq λy2 hq p3 W4 e5 hp6 o7=>hq p3 W4 (E0.trans e5) (none_of E0.h hp6) o7
theorem Ge{f:Addr}{fd:GJ}(F:Fun K "band" "Loom.band" (tq 38 9) f fd){a0 a2:Addr}(b2:Cls K a2)(a9:Cls K a0)(b3:NoAttr K a2 "course")(b0:NoAttr K a0 "pick")(b4:mg "list"=none):FnOk P w K mg base CX0 (1) f fd ["self"] (gj (wC (vw<|bL K a0 a2) wN) (ro<|qD K)<|λa=>D9 a.1):=by
 have SC:FnScope ["self"] ["self"] (defScope<|tq 38 9):=by walk_at "F"
 refine F.ok SC (λvs H Q E h=>?_)<|λZ9 A outer s H vs Q E hr h=>?_;·obtain⟨_,_,_,ra,_⟩:=h;obtain⟨_,us,rfl,_,ra⟩:=ra;cases ra;rfl
 ·obtain⟨W0,aa,rfl,ra,Er,hq⟩:=h;obtain⟨self,_⟩:=aa;obtain⟨a3,us,rfl,a6,ra⟩:=ra;replace a6:(vw<|bL K a0 a2) W0 self a3:=a6;cases ra;replace hq:(D9 self).OkE Er (λr=>(ro<|qD K) W0 r Q):=hq;refine⟨_,(ae (ai (d5 (N:=["stage"]) (cap:=[none]) (fu rfl ⋯ rfl ⋯ (by rfl) (by rfl)) rfl (cy (K:=K) rfl<|aM (K:=K) rfl (pv 0) rfl) (λ_ _ _ _=>(aJ (i:=0) (show H9 (["stage"]:List Str) by decide +kernel) rfl (by walk_at "L"))) (λ_ _ _ _=>(kM<|aG yv (aM (K:=K) rfl (pv 0) rfl) jD<|aH _)) (λ_ _ _ _=>(bF (cM (K:=K) rfl) (by rfl) b4 HI<|a4 (aM (K:=K) rfl (pv 0) rfl) a5))))),?_⟩;have E0:Ext W0 W0:=.refl W0;rw[show L2.start ["self"] [a3]=[some a3]from rfl];unfold D9 at hq;exact iz (Er:=Er) (jZ (lU (K:=K)<|eU<|eV b2 b3 Z1w.at_<|aY (R:=(vw<|bL K a0 a2))<|GX E0 a6) λW3 a1 v2 e4 h5 Q8 k9=>by
   refine gn ?_;refine⟨by simp[Keep,bI],((aI<|yP<|cJ a9 b0 i9<|ba h5):TV Er _ [some v2] _ _) _ (.refl _) _ (GP (P:=λa7=>(if a7=true then((fR a1.2.2.2.2.2).bind λb5=>Gr<|some b5)else Gr none:Res (Option<|List Pl)).OkE Er _) (Fg k9) λa7 b1 b6 a8=>?_)⟩;cases a7 with
   |false=>exact b1 none _ a8 trivial
   |true=>
    rw[Z1 rfl];refine EV.go (Er:=Er) (Y:=[some v2]) (W1:=b6) a8 (HN (fi (Jl (wc (cJ a9 b0 i9 (ba h5)))))) ?_;exact(Gj (show(PR _ _).OkE Er _ from b1)).imp λc6 b7 b8 c7 b9 c0=>b7 (some b8) _ (a8.trans b9) c0) (GP hq λc8 hq c1 c2 c3 c4 c5=>hq c1 c2 (E0.trans c3) (none_of E0.h c4) c5)
theorem Gf{f:Addr}{fd:GJ}(F:Fun K "twist" "Loom.twist" (tq 38 11) f fd){fT:Z02->Res eW}{a0 a1:Addr}(a3:CalM P w K mg base CX0 a1 "now" ["self"] (1) (gj (wC (vw<|bL K a0 a1) wN) (rs<|aS K a0)<|λa=>fT a.1))(a7:Cls K a1)(a4:Cls K a0)(a5:NoAttr K a0 "reached"):FnOk P w K mg base CX0 (2) f fd ["self","k"] (gj (wC (vw<|bL K a0 a1)<|wC (sh isI) wN) (rs isI)<|λa=>Dc fT a.1 a.2.1):=by
 have SC:FnScope ["self","k"] ["self","k"] (defScope<|tq 38 11):=by walk_at "F"
 refine F.ok SC (λvs H Q E h=>?_)<|λZ9 A outer s H vs Q E hr h=>?_;·obtain⟨_,_,_,ra,_⟩:=h;obtain⟨_,us,rfl,_,ra⟩:=ra;obtain⟨_,us,rfl,_,ra⟩:=ra;cases ra;rfl
 ·obtain⟨W0,aa,rfl,ra,Er,hq⟩:=h;obtain⟨self,k,_⟩:=aa;obtain⟨a6,us,rfl,a2,ra⟩:=ra;replace a2:(vw<|bL K a0 a1) W0 self a6:=a2;obtain⟨v_k,us,rfl,z_k,ra⟩:=ra;replace z_k:(sh isI) W0 k v_k:=z_k;cases ra;replace hq:(Dc fT self k).OkE Er (λr=>(rs isI) W0 r Q):=hq;cases z_k;refine⟨_,(ae (ai (av (bz (K:=K) rfl) (aM (K:=K) rfl (et a3 (hr.mono ⋯)<|pv 0) rfl) (pv 1)<|λ_ _=>rfl))),?_⟩;have E0:Ext W0 W0:=.refl W0;unfold Dc at hq;exact aA (Er:=Er) (fc (Jl<|cJ a4 a5 fN<|jw (bV<|bV<|bV gH) (aY (R:=(vw<|bL K a0 a1))<|GX E0 a2) cE) bO)<|GP hq λy3 hq v4 W5 e6 h7=>hq v4 W5 (E0.trans e6) h7
theorem Gg{f:Addr}{fd:GJ}(F:Fun K "peak" "Loom.peak" (tq 38 12) f fd){fT:Z02->Res eW}{a0 a1:Addr}(a3:CalM P w K mg base CX0 a1 "now" ["self"] (1) (gj (wC (vw<|bL K a0 a1) wN) (rs<|aS K a0)<|λa=>fT a.1))(a7:Cls K a1)(a4:Cls K a0)(a5:NoAttr K a0 "highest"):FnOk P w K mg base CX0 (2) f fd ["self","k"] (gj (wC (vw<|bL K a0 a1)<|wC (sh isI) wN) (rs isI)<|λa=>Dd fT a.1 a.2.1):=by
 have SC:FnScope ["self","k"] ["self","k"] (defScope<|tq 38 12):=by walk_at "F"
 refine F.ok SC (λvs H Q E h=>?_)<|λZ9 A outer s H vs Q E hr h=>?_;·obtain⟨_,_,_,ra,_⟩:=h;obtain⟨_,us,rfl,_,ra⟩:=ra;obtain⟨_,us,rfl,_,ra⟩:=ra;cases ra;rfl
 ·obtain⟨W0,aa,rfl,ra,Er,hq⟩:=h;obtain⟨self,k,_⟩:=aa;obtain⟨a6,us,rfl,a2,ra⟩:=ra;replace a2:(vw<|bL K a0 a1) W0 self a6:=a2;obtain⟨v_k,us,rfl,z_k,ra⟩:=ra;replace z_k:(sh isI) W0 k v_k:=z_k;cases ra;replace hq:(Dd fT self k).OkE Er (λr=>(rs isI) W0 r Q):=hq;cases z_k;refine⟨_,(ae (ai (av (bz (K:=K) rfl) (aM (K:=K) rfl (et a3 (hr.mono ⋯)<|pv 0) rfl) (pv 1)<|λ_ _=>rfl))),?_⟩;have E0:Ext W0 W0:=.refl W0;unfold Dd at hq;exact aA (Er:=Er) (fc (Jl<|cJ a4 a5 fO<|jw (bV<|bV<|bV gH) (aY (R:=(vw<|bL K a0 a1))<|GX E0 a2) cE) bO)<|GP hq λy3 hq v4 W5 e6 h7=>hq v4 W5 (E0.trans e6) h7
theorem Gh{f:Addr}{fd:GJ}(F:Fun K "rest" "Loom.rest" (tq 38 13) f fd){fT:Z02->Res eW}{a0 a1:Addr}(a4:CalM P w K mg base CX0 a1 "now" ["self"] (1) (gj (wC (vw<|bL K a0 a1) wN) (rs<|aS K a0)<|λa=>fT a.1))(b0:Cls K a1)(a5:Cls K a0)(a6:NoAttr K a0 "lengths"):FnOk P w K mg base CX0 (2) f fd ["self","colour"] (gj (wC (vw<|bL K a0 a1)<|wC (sh isS) wN) (rs isI)<|λa=>De fT a.1 a.2.1):=by
 have SC:FnScope ["self","colour"] ["self","colour"] (defScope<|tq 38 13):=by walk_at "F"
 refine F.ok SC (λvs H Q E h=>?_)<|λZ9 A outer s H vs Q E hr h=>?_;·obtain⟨_,_,_,ra,_⟩:=h;obtain⟨_,us,rfl,_,ra⟩:=ra;obtain⟨_,us,rfl,_,ra⟩:=ra;cases ra;rfl
 ·obtain⟨W0,aa,rfl,ra,Er,hq⟩:=h;obtain⟨self,colour,_⟩:=aa;obtain⟨a7,us,rfl,a2,ra⟩:=ra;replace a2:(vw<|bL K a0 a1) W0 self a7:=a2;obtain⟨a9,us,rfl,a3,ra⟩:=ra;replace a3:(sh isS) W0 colour a9:=a3;cases ra;replace hq:(De fT self colour).OkE Er (λr=>(rs isI) W0 r Q):=hq;cases a3;refine⟨_,(ae (ai (hG (dZ hr) (aM (K:=K) rfl (et a4 (hr.mono ⋯)<|pv 0) rfl) (pv 1) a8 ⟨rfl,rfl,rfl,rfl⟩))),?_⟩;have E0:Ext W0 W0:=.refl W0;unfold De at hq;exact aA (Er:=Er) (i4 gQ kS (M0<|cJ a5 a6 eX<|jw (bV<|bV<|bV gH) (aY (R:=(vw<|bL K a0 a1))<|GX E0 a2) cE) cS af)<|GP hq λy3 hq v4 W5 e6 h7=>hq v4 W5 (E0.trans e6) h7
theorem Gi{f:Addr}{fd:GJ}(F:Fun K "_law_stands" "_law_stands" (tp 67) f fd){ym:Z02->Res (List Cd)}{yn:Z02->Res (List<|List Pl)}{pX:Z02->Res (List Dat)}{sJ:Z02->Int->Res Int}{sL:Z02->Int->Res Int}{qZ:Z02->Tx->Res Int}{a2 a1:Addr}(a9:Cal P w K mg base "_law_same" ["_law_found","_law_due"] 26 (eQ K 26))(d3:CalM P w K mg base CX0 a1 "tablets" ["self"] (2) (gj (wC (vw<|bL K a2 a1) wN) (ro<|qA K)<|λa=>ym a.1))(d4:CalM P w K mg base CX0 a1 "band" ["self"] (1) (gj (wC (vw<|bL K a2 a1) wN) (ro<|qD K)<|λa=>yn a.1))(d5:CalM P w K mg base CX0 a1 "deeds" ["self"] (1) (gj (wC (vw<|bL K a2 a1) wN) (ro<|isU K)<|λa=>pX a.1))(d6:CalM P w K mg base CX0 a1 "twist" ["self","k"] (2) (gj (wC (vw<|bL K a2 a1)<|wC (sh isI) wN) (rs isI)<|λa=>sJ a.1 a.2.1))(d7:CalM P w K mg base CX0 a1 "peak" ["self","k"] (2) (gj (wC (vw<|bL K a2 a1)<|wC (sh isI) wN) (rs isI)<|λa=>sL a.1 a.2.1))(d8:CalM P w K mg base CX0 a1 "rest" ["self","colour"] (2) (gj (wC (vw<|bL K a2 a1)<|wC (sh isS) wN) (rs isI)<|λa=>qZ a.1 a.2.1))(h7:Cls K a1)(d9:mg "len"=none)(e0:mg "range"=none):FnOk P w K mg base CX0 (27) f fd ["_law_loom","_law_state","_law_band","_law_done"] (gj (wC (vw<|bL K a2 a1)<|wC (sh<|kq K)<|wC (sh<|isL<|qD K)<|wC (sh<|isL<|isU K) wN) (rs isB)<|λa=>Dg ym yn pX sJ sL qZ a.1 a.2.1 a.2.2.1 a.2.2.2.1):=by
 have SC:FnScope ["_law_loom","_law_state","_law_band","_law_done","_law_k","_law_colour"] ["_law_loom","_law_state","_law_band","_law_done"] (defScope<|tp 67):=by walk_at "F"
 refine F.ok SC (λvs H Q E h=>?_)<|λZ9 A outer s H vs Q E hr h=>?_;·obtain⟨_,_,_,ra,_⟩:=h;obtain⟨_,us,rfl,_,ra⟩:=ra;obtain⟨_,us,rfl,_,ra⟩:=ra;obtain⟨_,us,rfl,_,ra⟩:=ra;obtain⟨_,us,rfl,_,ra⟩:=ra;cases ra;rfl
 ·obtain⟨W0,aa,rfl,ra,Er,hq⟩:=h;obtain⟨b9,c0,c7,c8,_⟩:=aa;obtain⟨b0,us,rfl,a3,ra⟩:=ra;replace a3:(vw<|bL K a2 a1) W0 b9 b0:=a3;obtain⟨b1,us,rfl,a0,ra⟩:=ra;replace a0:(sh<|kq K) W0 c0 b1:=a0;obtain⟨b2,us,rfl,b3,ra⟩:=ra;replace b3:(sh<|isL<|qD K) W0 c7 b2:=b3;obtain⟨b4,us,rfl,a7,ra⟩:=ra;replace a7:(sh<|isL<|isU K) W0 c8 b4:=a7;cases ra;replace hq:(Dg ym yn pX sJ sL qZ b9 c0 c7 c8).OkE Er (λr=>(rs isB) W0 r Q):=hq
  refine⟨_,(a6 (bq (N4 (l6 (dN (cO (eK a9 (a4 (et d3 (hr.mono ⋯)<|pv 0)<|a4 (av (aw (K:=K) rfl) (pv 1) a8<|λ_ _=>rfl) a5)))) (jF (dN (cO (eK a9 (a4 (et d4 (hr.mono ⋯)<|pv 0)<|a4 (pv 2) a5))))))) (ae<|ai fw) az)
   (a6 (bq (dN (cO (eK a9 (a4 (et d5 (hr.mono ⋯)<|pv 0)<|a4 (pv 3) a5)))) (ae<|ai fw) az)
   (a6 (dO HG rfl (iq rfl e0 (a4 (aj (bP (K:=K) rfl) (by rfl) d9 HH<|a4 (av (aw (K:=K) rfl) (pv 1) a8<|λ_ _=>rfl) a5) a5)) (gG 4) (ae (bq (N4 (l6 (dN (cO (eK a9 (a4 (ju d6 (hr.mono ⋯) (pv 0)<|a4 (pv 4) a5)<|a4 (av (bz (K:=K) rfl) (av (aw (K:=K) rfl) (pv 1) a8<|λ_ _=>rfl) (pv 4)<|λ_ _=>rfl) a5)))) (jF (dN (cO (eK a9 (a4 (ju d7 (hr.mono ⋯) (pv 0)<|a4 (pv 4) a5)<|a4 (av (bz (K:=K) rfl) (av (aw (K:=K) rfl) (pv 1) a8<|λ_ _=>rfl) (pv 4)<|λ_ _=>rfl) a5))))))) (ae<|ai fw) az)))
   (a6 (dO HG rfl (iS ak) (gG 5) (ae (bq (dN (cO (eK a9 (a4 (ju d8 (hr.mono ⋯) (pv 0)<|a4 (pv 5) a5)<|a4 (hG (dZ hr) (av (aw (K:=K) rfl) (pv 1) a8<|λ_ _=>rfl) (pv 5) a8 ⟨rfl,rfl,rfl,rfl⟩) a5)))) (ae<|ai fw) az)))
   (ae (ai fw)))))),?_⟩
  have E0:Ext W0 W0:=.refl W0;unfold Dg at hq;refine br (Er:=Er) (pw (fb (iZ (i0 ⋯ (HN<|oy (bV<|bV<|bV gH) (aY (R:=(vw<|bL K a2 a1))<|GX E0 a3) cE)<|bt (f:=λ(b:(List Cd)×(List Int)×(List Int)×cV)=>b.1) uf<|ba a0))) (fb (iZ (i0 ⋯ (HN<|oy (bV<|bV<|bV gH) (aY (R:=(vw<|bL K a2 a1))<|GX E0 a3) cE)<|ba b3))))<|(Gj hq).imp λy6 hq W7 e8=>?_;have E0:=E0.trans e8;have a0:=Gm e8.g a0;have b3:=Gm e8.g b3;have a7:=Gm e8.g a7;by_cases b5:y6=true
  ·rw[Z1 b5]at hq ⊢;exact aA (Er:=Er) jg<|λv9 e1 e2 e3=>hq v9 e1 (E0.trans e2) e3
  ·rw[Z2 b5]at hq ⊢
   try dsimp only[aD]
   refine br (Er:=Er) (fb (iZ (pJ ⋯ (di (K:=K) (u:=λ(z:List Dat)=>KO<|z.map λ(z:Dat)=>z) (jm (u:=λ(z:Dat)=>z) lM)<|HN<|oy (bV<|bV<|bV gH) (aY (R:=(vw<|bL K a2 a1))<|GX E0 a3) cE)<|di (K:=K) (u:=λ(z:List Dat)=>KO<|z.map λ(z:Dat)=>z) (jm (u:=λ(z:Dat)=>z) lM)<|ba a7)))<|(Gj hq).imp λe4 hq h8 c1=>?_;have E0:=E0.trans c1;have a0:=Gm c1.g a0;have a7:=Gm c1.g a7;by_cases b5:e4=true
   ·rw[Z1 b5]at hq ⊢;exact aA (Er:=Er) jg<|λe5 e6 e7 e9=>hq e5 e6 (E0.trans e7) e9
   ·rw[Z2 b5]at hq ⊢
    try dsimp only[aD]
    refine jQ (Er:=Er) (f:=(Df sJ sL b9 c0)) (s0:=()) (Iv:=λ(h9:Unit)(f0:Wd)(f1:St)=>∃(b6:Option V),f1=[some b0,some b1,some b2,some b4,b6,none]/\Ext W0 f0) (qQ<|Jl<|bt (f:=λ(b:(List Cd)×(List Int)×(List Int)×cV)=>b.1) uf<|ba a0) (Gj hq) ?_ ?_ ?_
    ·intro i1 c9;have E0:=E0.trans c9;have a0:=Gm c9.g a0;exact⟨_,rfl,E0⟩
    ·intro i2 i3 i5 f2 i6 i7 i8 i9 f3 b7 iv c2 f4 hrt39 hq;obtain⟨b6,rfl,E0⟩:=iv;have a0:=Gm f3 a0;have E0:=E0.trans c2;have b7:=b7.trans c2.g;have a0:=Gm c2.g a0;cases f4;refine gn (σ':=[some b0,some b1,some b2,some b4,some<|.int f2,none]) ?_;unfold Df at hq;refine pC (Er:=Er) (pw (fb (iZ (i0 ⋯ (jw (bV<|bV<|bV gH) (aY (R:=(vw<|bL K a2 a1))<|GX E0 a3)<|cI (R:=(sh isI)) bO cE)<|fc (Jl<|bt (f:=λ(b:(List Cd)×(List Int)×(List Int)×cV)=>b.2.1) Cq<|ba a0) bO))) (fb (iZ (i0 ⋯ (jw (bV<|bV<|bV gH) (aY (R:=(vw<|bL K a2 a1))<|GX E0 a3)<|cI (R:=(sh isI)) bO cE)<|fc (Jl<|bt (f:=λ(b:(List Cd)×(List Int)×(List Int)×cV)=>b.2.2.1) Cr<|ba a0) bO))))<|(Gj hq).imp λf5 hq f6 c3=>?_;have E0:=E0.trans c3;have b7:=b7.trans c3.g;have a0:=Gm c3.g a0;by_cases d0:f5=true
     ·rw[Z1 d0]at hq ⊢;exact aA (Er:=Er) jg<|λf7 f8 f9 g0=>(hrt39 _ hq) f7 f8 (E0.trans f9) g0
     ·rw[Z2 d0]at hq ⊢
      try dsimp only[aD]
      try dsimp only
      refine ee (W:=f6) () b7 ?_ hq;exact⟨_,rfl,E0⟩
    ·intro j1 j2 j3 g1 iv hq;obtain⟨b6,rfl,E0⟩:=iv;have a0:=Gm g1 a0;refine jQ (Er:=Er) (f:=(BP qZ b9 c0)) (s0:=()) (Iv:=λ(j4:Unit)(g2:Wd)(g3:St)=>∃(c4:Option V),g3=[some b0,some b1,some b2,some b4,b6,c4]/\Ext W0 g2) (j0 (aq (x:=Gq "abcdefghijklmnopqrstuvwxyz") (l:=[97,98,99,100,101,102,103,104,105,106,107,108,109,110,111,112,113,114,115,116,117,118,119,120,121,122]) (cQ _ _ ⋯))) (Gj hq) ?_ ?_ ?_
     ·intro j5 d1;have E0:=E0.trans d1;have a0:=Gm d1.g a0;exact⟨_,rfl,E0⟩
     ·intro j6 j7 j8 g4 j9 k0 k1 k2 g5 b8 iv c5 g6 hrt79 hq;obtain⟨c4,rfl,E0⟩:=iv;have a0:=Gm g5 a0;have E0:=E0.trans c5;have b8:=b8.trans c5.g;have a0:=Gm c5.g a0;cases g6;refine gn (σ':=[some b0,some b1,some b2,some b4,b6,some<|.str<|sOf g4]) ?_;unfold BP at hq;refine pC (Er:=Er) (fb (iZ (i0 ⋯ (jw (bV<|bV<|bV gH) (aY (R:=(vw<|bL K a2 a1))<|GX E0 a3)<|cI (R:=(sh isS)) cS cE)<|i4 gQ kS (M0<|bt (f:=λ(b:(List Cd)×(List Int)×(List Int)×cV)=>b.2.2.2) Cs<|ba a0) cS af)))<|(Gj hq).imp λg7 hq g8 c6=>?_;have E0:=E0.trans c6;have b8:=b8.trans c6.g;have a0:=Gm c6.g a0;by_cases d2:g7=true
      ·rw[Z1 d2]at hq ⊢;exact aA (Er:=Er) jg<|λg9 h0 h1 h2=>(hrt79 _ hq) g9 h0 (E0.trans h1) h2
      ·rw[Z2 d2]at hq ⊢
       try dsimp only[aD]
       try dsimp only
       refine ee (W:=g8) () b8 ?_ hq;exact⟨_,rfl,E0⟩
     ·intro k3 k4 k5 k6 iv hq;obtain⟨c4,rfl,E0⟩:=iv;exact aA (Er:=Er) jg<|λh3 h4 h5 h6=>hq h3 h4 (E0.trans h5) h6
theorem Di{f:Addr}{fd:GJ}(F:Fun K "law" "law" (tp 69) f fd){zr:List Int->Res ((List Cd)×Int×cV)}{yf:(List Cd)->Int->cV->Res Z02}{zu:(List Cd)->cV->Res ef}{ql:Z02->Res Tx}{pY:(List Cd)->Int->cV->(List Dat)->Res Tx}{iI:List Int->Int->Res Int}{uE:Int->Int->Res Dat}{ny:(List<|ef×Dat)->(List<|ef×Dat)->Dat->Int->Res (((List<|ef×Dat)×(List<|ef×Dat))×Dat)}{nz:Z02->Dat->Res (Z02×Dat)}{yo:Z02->ef->(List<|List Pl)->(List Dat)->Res Bool}{zC:(List<|ef×Dat)->Res (List<|List Pl)}{a3 a2:Addr}(f8:Cal P w K mg base "_law_loom_parts" ["_law_script"] (5) (dY (isScr K) (rs<|isT3 K (isL<|qA K) isI kW) zr))(f9:CalI P w K mg base "Loom" a2 ["self","draft","most","spools"] (4) (sC a2 (xv K a3) (wC (pk<|qA K)<|wC (sh isI)<|wC (pkD (λ(a:Tx)=>GU<|sOf a) isI) wN)<|λa=>yf a.1 a.2.1 a.2.2.1))(g0:Cal P w K mg base "_law_begin" ["_law_draft_here","_law_spools_here"] (1) (cB (isL<|qA K) kW (rs<|kq K) zu))(d0:Cal P w K mg base "_law_same" ["_law_found","_law_due"] 26 (eQ K 26))(e3:Cal P w K mg base "told" ["loom"] (2) (gj (wC (vw<|bL K a3 a2) wN) (rs isS)<|λa=>ql a.1))(e5:Cal P w K mg base "_law_lines" ["_law_draft_here","_law_most_here","_law_spools_here","_law_done"] (1) (yR (isL<|qA K) isI kW (isL<|isU K) (rs isS) pY))(f2:Cal P w K mg base "_law_at" ["_law_script","_law_k"] (1) (cB (isScr K) isI (rs isI) iI))(g1:Cal P w K mg base "_law_deed" ["_law_cell","_law_width"] (4) (cB isI isI (rs<|isU K) uE))(g2:Cal P w K mg base "_law_do" ["_law_stack","_law_undone","_law_deed_here","_law_most_here"] (4) (DJ (oL<|eg K) (oL<|eg K) (aC (isU K)<|aC isI aN) (isU K)<|λx y a=>ny x y a.1 a.2.1))(g3:Cal P w K mg base "_law_try_deed" ["_law_loom","_law_deed_here"] (5) (uY (bL K a3 a2) (aC (isU K) aN) (isU K)<|λst a=>nz st a.1))(g4:Cal P w K mg base "_law_stands" ["_law_loom","_law_state","_law_band","_law_done"] (27) (gj (wC (vw<|bL K a3 a2)<|wC (sh<|kq K)<|wC (sh<|isL<|qD K)<|wC (sh<|isL<|isU K) wN) (rs isB)<|λa=>yo a.1 a.2.1 a.2.2.1 a.2.2.2.1))(g5:Cal P w K mg base "_law_rows_of" ["_law_stack"] (4) (gj (wC (pk<|isT2 K (kq K)<|isU K) wN) (ro<|qD K)<|λa=>zC a.1))(m6:Cls K a2)(g6:mg "dict"=none)(g7:mg "len"=none)(g8:mg "list"=none)(g9:mg "range"=none):FnOk P w K mg base CX0 (28) f fd ["_law_script"] (dY (isScr K) (rs isB)<|sM zr yf zu ql pY iI uE ny nz yo zC):=by
 have SC:FnScope ["_law_script","_law_draft_here","_law_most_here","_law_spools_here","_law_hand","_law_loom","_law_stack","_law_undone","_law_k","_law_deed_here","_law_due","_law_done","_law_text"] ["_law_script"] (defScope<|tp 69):=by walk_at "F"
 refine F.ok SC (λvs H Q E h=>?_)<|λZ9 A outer s H vs Q E hr h=>?_;·obtain⟨_,_,_,_,rfl,_⟩:=h;rfl
 ·obtain⟨W0,h0,d1,rfl,rfl,a1,Er,hq⟩:=h;refine⟨_,(a6 (gU (eK f8<|a4 (pv 0) a5)<|cD (K:=K) (n:=3) rfl rfl<|au (gG 1)<|au (gG 2)<|au (gG 3) cm)
   (a6 (fh 4 (bR (a4 (bF (cM (K:=K) rfl) (by rfl) g8 HI<|a4 (pv 1) a5) (a4 (bF gy (by rfl) g6 Jj<|a4 (pv 3) a5) a5))))
   (a6 (fh 5 (kT f9 (hr.mono ⋯) (by rfl)<|a4 (av (bz (K:=K) rfl) (pv 4) a8<|λ_ _=>rfl)<|a4 (pv 2)<|a4 (av (bz (K:=K) rfl) (pv 4) a8<|λ_ _=>rfl) a5))
   (a6 (fh 6<|bR<|a4 (aT<|a4 (eK g0<|a4 (pv 1)<|a4 (pv 3) a5)<|a4 (aT<|a4 ak<|a4 a8 a5) a5) a5)
   (a6 (fh 7<|bR a5)
   (a6 (bq (dN<|cO<|eK d0<|a4 (eK e3<|a4 (pv 5) a5)<|a4 (eK e5<|a4 (pv 1)<|a4 (pv 2)<|a4 (pv 3)<|a4 (bR a5) a5) a5) (ae<|ai fw) az)
   (a6 (bT<|cj (K:=K) rfl (av (bz (K:=K) rfl) (pv 4) a8<|λ_ _=>rfl)<|a4 (aT<|a4 ak<|a4 ak<|a4 a8 a5) a5)
   (a6 (bT<|zh<|av (bz (K:=K) rfl) (pv 4) a8<|λ_ _=>rfl)
   (a6 (dO HG rfl (iq rfl g9<|a4 (ag aX (eK f2<|a4 (pv 0)<|a4 a8 a5) a8) a5) (gG 8) (a6 (fh 9 (eK g1 (a4 (eK f2<|a4 (pv 0)<|a4 (ag cv a8<|pv 8) a5) (a4 (aj (bP (K:=K) rfl) (by rfl) g7 HH<|a4 (pv 1) a5) a5))))
   (a6 (fh 10<|eK g2<|a4 (pv 6)<|a4 (pv 7)<|a4 (pv 9)<|a4 (pv 2) a5)
   (a6 (bq (dN<|cO<|eK d0<|a4 (eK g3<|a4 (pv 5)<|a4 (pv 9) a5)<|a4 (pv 10) a5) (ae<|ai fw) az)
   (a6 (dP (i:=11) SC.nd rfl (by walk_at "L") (N:=["_law_one"]) (cap:=[none]) (fu rfl ⋯ rfl ⋯ (by rfl) (by rfl)) rfl (cy (K:=K) rfl<|cw (lC (K:=K) rfl) (pv 6) (cC a8) dH) (λ_ _ _ _=>(aJ (i:=0) (show H9 (["_law_one"]:List Str) by decide +kernel) rfl (by walk_at "L"))) (λ_ _ _ _=>cn)<|λ_ _ _ _=>(av (aw (K:=K) rfl) (pv 0) a8<|λ_ _=>rfl))
   (a6 (fh 12<|eK e5<|a4 (pv 1)<|a4 (pv 2)<|a4 (pv 3)<|a4 (pv 11) a5)
   (ae (bq (N4 (l0 (aG cK (ag aX (pv 8) a8) a8 (aH _)) (ja (dN (cO (eK d0 (a4 (eK e3 (a4 (pv 5) a5)) (a4 (pv 12) a5)))))))) (ae (ai fw)) az))))))))
   (a6 (dP (i:=11) SC.nd rfl (by walk_at "L") (N:=["_law_one"]) (cap:=[none]) (fu rfl ⋯ rfl ⋯ (by rfl) (by rfl)) rfl (cy (K:=K) rfl<|cw (lC (K:=K) rfl) (pv 6) (cC a8) dH) (λ_ _ _ _=>(aJ (i:=0) (show H9 (["_law_one"]:List Str) by decide +kernel) rfl (by walk_at "L"))) (λ_ _ _ _=>cn)<|λ_ _ _ _=>(av (aw (K:=K) rfl) (pv 0) a8<|λ_ _=>rfl))
   (a6 (bq (dN<|cO<|eK d0<|a4 (eK e3<|a4 (pv 5) a5)<|a4 (eK e5<|a4 (pv 1)<|a4 (pv 2)<|a4 (pv 3)<|a4 (pv 11) a5) a5) (ae<|ai fw) az)
   (ae (ai (eK g4 (a4 (pv 5) (a4 (av (aw (K:=K) rfl) (av (bz (K:=K) rfl) (pv 6) (mJ jH a8) (λ_ _=>rfl)) a8 (λ_ _=>rfl)) (a4 (eK g5 (a4 (pv 6) a5)) (a4 (pv 11) a5)))))))))))))))))),?_⟩
  have E0:Ext W0 W0:=.refl W0;rw[show L2.start ["_law_script","_law_draft_here","_law_most_here","_law_spools_here","_law_hand","_law_loom","_law_stack","_law_undone","_law_k","_law_deed_here","_law_due","_law_done","_law_text"] [d1]=[some d1,none,none,none,none,none,none,none,none,none,none,none,none]from rfl];unfold sM at hq;refine gq (Er:=Er) (dz<|ba a1)<|(Gj hq).imp λy1 hq v2 W3 e4 h5=>?_;have E0:=E0.trans e4;have a1:=Gm e4.g a1;refine pA h5 λv6 v8 f3 h7 h9 a0=>?_;cases h9;have S:Sep W0 W3 []:=Sep.nil;refine bj<|js (Er:=Er) S E0 (xj (Qr<|fi<|Jl<|ba h7)<|EVd.tr<|i5<|M0<|ba a0) (λa9 h1 d2 S=>?_)
  have E0:=E0.trans d2;have a1:=Gm d2.g a1;have h7:=Gm d2.g h7;have a0:=Gm d2.g a0;have S:Sep W0 h1 [tc (oP2 (oL<|fz<|qA K)<|oDk (λ(a:Tx)=>GU<|sOf a) isI) (y1.1,y1.2.2) a9]:=S;refine bj<|js (Er:=Er) S E0 (xa<|cI (R:=(pk<|qA K)) (eU<|zl (K:=K)<|cq (R:=(oP2 (oL<|fz<|qA K)<|oDk (λ(a:Tx)=>GU<|sOf a) isI)) (a:=(y1.1,y1.2.2)) (k:=0) S)<|cI (R:=(sh isI)) bO<|cI (R:=(pkD (λ(a:Tx)=>GU<|sOf a) isI)) (xh<|zm (K:=K)<|cq (R:=(oP2 (oL<|fz<|qA K)<|oDk (λ(a:Tx)=>GU<|sOf a) isI)) (a:=(y1.1,y1.2.2)) (k:=0) S) cE) ((Gj hq).imp λb7 hq b0 h2 d3 S=>?_)
  have E0:=E0.trans d3;have a1:=Gm d3.g a1;have h7:=Gm d3.g h7;have a0:=Gm d3.g a0;have S:Sep W0 h2 [tc (oP2 (oL<|fz<|qA K)<|oDk (λ(a:Tx)=>GU<|sOf a) isI) (y1.1,y1.2.2) a9,tc (bL K a3 a2) b7 b0]:=S;refine bj<|js (Er:=Er) S E0 (Qr (cZ (bf (aZ (K:=K) (bM (ba h7)<|ba a0) (di (K:=K) (fk cR pH) (aZ (K:=K) (aq (x:=Gq "begin") (l:=[98,101,103,105,110]) (cQ _ _ ⋯)) af)))<|cY (R:=(isT2 K (kq K)<|isU K))))) ((Gj hq).imp λb9 hq b2 h3 d4 S=>?_)
  have E0:=E0.trans d4;have a1:=Gm d4.g a1;have h7:=Gm d4.g h7;have a0:=Gm d4.g a0;have S:Sep W0 h3 [tc (oP2 (oL<|fz<|qA K)<|oDk (λ(a:Tx)=>GU<|sOf a) isI) (y1.1,y1.2.2) a9,tc (bL K a3 a2) b7 b0,tc (oL<|eg K) b9 b2]:=S;refine bj<|js (Er:=Er) S E0 (jt (R:=(eg K))) (λb3 h4 d5 S=>?_)
  have E0:=E0.trans d5;have a1:=Gm d5.g a1;have h7:=Gm d5.g h7;have a0:=Gm d5.g a0;have S:Sep W0 h4 [tc (oP2 (oL<|fz<|qA K)<|oDk (λ(a:Tx)=>GU<|sOf a) isI) (y1.1,y1.2.2) a9,tc (bL K a3 a2) b7 b0,tc (oL<|eg K) b9 b2,tc (oL<|eg K) ([]:List (ef×Dat)) b3]:=S;refine br (Er:=Er) (fb (iZ (lN ⋯ (i6<|cI (R:=(vw<|bL K a3 a2)) (cq (R:=(bL K a3 a2)) (k:=1) S) cE)<|lH (ba h7) bO (ba a0)<|HN<|o4 (R:=(isU K)))))<|(Gj hq).imp λh6 hq m7 c4=>?_;have S:=S.ext c4;have E0:=E0.trans c4;have a1:=Gm c4.g a1;have h7:=Gm c4.g h7;have a0:=Gm c4.g a0;by_cases c5:h6=true
  ·rw[Z1 c5]at hq ⊢;exact aA (Er:=Er) jg<|λh8 i0 i3 i4=>hq h8 i0 (E0.trans i3) i4
  ·rw[Z2 c5]at hq ⊢
   try dsimp only[aD]
   refine bj<|kQ (Er:=Er) (K:=K) E0 (CJ (K:=K)<|fM (R:=(oP2 (oL<|fz<|qA K)<|oDk (λ(a:Tx)=>GU<|sOf a) isI)) (C:=λbb=>[tc (oP2 (oL<|fz<|qA K)<|oDk (λ(a:Tx)=>GU<|sOf a) isI) bb a9,tc (bL K a3 a2) b7 b0,tc (oL<|eg K) b9 b2,tc (oL<|eg K) ([]:List (ef×Dat)) b3]) (k:=0) S E0) (fB (K:=K) (aq (x:=Gq "S") (l:=[83]) (cQ _ _ ⋯)) (aq (x:=Gq "qqqq") (l:=[113,113,113,113]) (cQ _ _ ⋯)) af) ((Gj hq).imp λi8 hq i9 e6 E0 S=>?_)
   have S:Sep W0 i9 [tc (oP2 (oL<|fz<|qA K)<|oDk (λ(a:Tx)=>GU<|sOf a) isI) i8 a9,tc (bL K a3 a2) b7 b0,tc (oL<|eg K) b9 b2,tc (oL<|eg K) ([]:List (ef×Dat)) b3]:=S;have a1:=Gm e6 a1;have h7:=Gm e6 h7;have a0:=Gm e6 a0;refine bj<|xl (Er:=Er) E0 (CK (K:=K)<|fM (R:=(oP2 (oL<|fz<|qA K)<|oDk (λ(a:Tx)=>GU<|sOf a) isI)) (C:=λbb=>[tc (oP2 (oL<|fz<|qA K)<|oDk (λ(a:Tx)=>GU<|sOf a) isI) bb a9,tc (bL K a3 a2) b7 b0,tc (oL<|eg K) b9 b2,tc (oL<|eg K) ([]:List (ef×Dat)) b3]) (k:=0) S E0) ((Gj hq).imp λd6 hq j0 e7 E0 S=>?_)
   have S:Sep W0 j0 [tc (oP2 (oL<|fz<|qA K)<|oDk (λ(a:Tx)=>GU<|sOf a) isI) d6 a9,tc (bL K a3 a2) b7 b0,tc (oL<|eg K) b9 b2,tc (oL<|eg K) ([]:List (ef×Dat)) b3]:=S;have a1:=Gm e7 a1;have h7:=Gm e7 h7;have a0:=Gm e7 a0;refine jQ (Er:=Er) (f:=(i7 ql pY iI uE ny nz h0 y1)) (s0:=(b7,b9,([]:List (ef×Dat)))) (Iv:=λ(e8:(Z02×(List<|ef×Dat)×(List<|ef×Dat)))(f4:Wd)(j1:St)=>∃(d7:Option V)(d8:Option V)(d9:Option V)(e0:Option V)(e9:Option V),j1=[some d1,some v6,some<|.int y1.2.1,some f3,some a9,some b0,some b2,some b3,e9,d7,d8,d9,e0]/\Ext W0 f4/\Sep W0 f4 [tc (oP2 (oL<|fz<|qA K)<|oDk (λ(a:Tx)=>GU<|sOf a) isI) d6 a9,tc (bL K a3 a2) e8.1 b0,tc (oL<|eg K) e8.2.1 b2,tc (oL<|eg K) e8.2.2 b3]) (jh (aE (λ_=>by decide)<|bM (ba a1) af)) (Gj hq) ?_ ?_ ?_
   ·intro m8 c6;have S:=S.ext c6;have E0:=E0.trans c6;have a1:=Gm c6.g a1;have h7:=Gm c6.g h7;have a0:=Gm c6.g a0;exact⟨_,_,_,_,_,rfl,E0,S⟩
   ·intro m9 n0 n1 j2 n2 j3 n3 n4 f0 a7 iv c0 j4 hrt66 hq;obtain⟨d7,d8,d9,e0,e9,rfl,E0,S⟩:=iv;have a1:=Gm f0 a1;have h7:=Gm f0 h7;have a0:=Gm f0 a0;have S:=S.ext c0;have E0:=E0.trans c0;have a7:=a7.trans c0.g;have a1:=Gm c0.g a1;have h7:=Gm c0.g h7;have a0:=Gm c0.g a0;cases j4;refine gn (σ':=[some d1,some v6,some<|.int y1.2.1,some f3,some a9,some b0,some b2,some b3,some<|.int j2,d7,d8,d9,e0]) ?_;unfold i7 at hq;refine bj<|aR (Er:=Er) (bM (bM (ba a1)<|bG af bO)<|ff<|Jl<|ba h7) ((Gj hq).imp λn5 hq n6 n7 c1 b1=>?_)
    have S:=S.ext c1;have E0:=E0.trans c1;have a7:=a7.trans c1.g;have a1:=Gm c1.g a1;have h7:=Gm c1.g h7;have a0:=Gm c1.g a0;refine bj<|zf (Er:=Er) (k:=2) (l:=3) (i1:=6) (i2:=7) (j:=10) S E0 rfl rfl ⋯ rfl rfl (bJ (ba b1)<|bJ bO fX) ((Gj hq).imp λc2 hq n8 j5 E0 c7 S b4=>?_)
    have S:Sep W0 j5 [tc (oP2 (oL<|fz<|qA K)<|oDk (λ(a:Tx)=>GU<|sOf a) isI) d6 a9,tc (bL K a3 a2) j3.1 b0,tc (oL<|eg K) c2.1.1 b2,tc (oL<|eg K) c2.1.2 b3]:=S;have a7:=a7.trans c7;have a1:=Gm c7 a1;have h7:=Gm c7 h7;have a0:=Gm c7 a0;have b1:=Gm c7 b1;refine pQ (Er:=Er) (K:=K) (k:=1) ⋯ S E0 rfl rfl (bJ (ba b1) fX) (λn9 j6=>(have j7:=Gm (R:=(isU K)) j6 b4;(ba j7)))<|(Gj hq).imp λf1 hq j8 E0 c3 S=>?_;have S:Sep W0 j8 [tc (oP2 (oL<|fz<|qA K)<|oDk (λ(a:Tx)=>GU<|sOf a) isI) d6 a9,tc (bL K a3 a2) f1.1 b0,tc (oL<|eg K) c2.1.1 b2,tc (oL<|eg K) c2.1.2 b3]:=S;have a7:=a7.trans c3;have a1:=Gm c3 a1;have h7:=Gm c3 h7;have a0:=Gm c3 a0;have b1:=Gm c3 b1;have b4:=Gm c3 b4;by_cases f5:f1.2=true
    ·rw[Z1 f5]at hq ⊢
     try dsimp only[aD]
     refine bj<|aR (Er:=Er) (HN (cF (dv<|HN<|o6 (eU<|cq (R:=(oL<|eg K)) (k:=2) S) (eJ af) fV) λo0 o1 j9 o2 k0 o3 k1=>by
      refine gn ?_;exact⟨by simp[Keep,bI],((bt (f:=λ(b:ef×Dat)=>b.2) tY (ba k0)):EV Er _ [some j9] _ _ _) _ (.refl _) _ k1⟩)) ((Gj hq).imp λo5 hq o7 o8 b8 c8=>?_)
     have S:=S.ext b8;have E0:=E0.trans b8;have a7:=a7.trans b8.g;have a1:=Gm b8.g a1;have h7:=Gm b8.g h7;have a0:=Gm b8.g a0;have b1:=Gm b8.g b1;have b4:=Gm b8.g b4;refine bj<|aR (Er:=Er) (lH (ba h7) bO (ba a0)<|ba c8) ((Gj hq).imp λo9 hq p0 p1 b5 k2=>?_)
     cases k2;have S:=S.ext b5;have E0:=E0.trans b5;have a7:=a7.trans b5.g;have a1:=Gm b5.g a1;have h7:=Gm b5.g h7;have a0:=Gm b5.g a0;have b1:=Gm b5.g b1;have b4:=Gm b5.g b4;have c8:=Gm b5.g c8;refine pC (Er:=Er) (qN (aI (dQ (aE (λ_=>by decide) bO) af)) (fb (iZ (lN ⋯ (i6<|cI (R:=(vw<|bL K a3 a2)) (cq (R:=(bL K a3 a2)) (k:=1) S) cE) cS))))<|(Gj hq).imp λk3 hq k4 b6=>?_;have S:=S.ext b6;have E0:=E0.trans b6;have a7:=a7.trans b6.g;have a1:=Gm b6.g a1;have h7:=Gm b6.g h7;have a0:=Gm b6.g a0;have b1:=Gm b6.g b1;have b4:=Gm b6.g b4;have c8:=Gm b6.g c8;by_cases f6:k3=true
     ·rw[Z1 f6]at hq ⊢;exact aA (Er:=Er) jg<|λk5 k6 k7 k8=>(hrt66 _ hq) k5 k6 (E0.trans k7) k8
     ·rw[Z2 f6]at hq ⊢
      try dsimp only[aD]
      try dsimp only
      refine ee (W:=k4) (f1.1,c2.1.1,c2.1.2) a7 ?_ hq;exact⟨_,_,_,_,_,rfl,E0,S⟩
    ·rw[Z2 f5]at hq ⊢;exact aA (Er:=Er) jg<|λk9 l1 l2 l3=>(hrt66 _ hq) k9 l1 (E0.trans l2) l3
   ·intro p2 p3 p4 f7 iv hq;obtain⟨d7,d8,d9,e0,e9,rfl,E0,S⟩:=iv;have h7:=Gm f7 h7;have a0:=Gm f7 a0;refine bj<|aR (Er:=Er) (HN (cF (dv<|HN<|o6 (eU<|cq (R:=(oL<|eg K)) (k:=2) S) (eJ af) fV) λp5 p6 l4 p7 l5 p8 l6=>by
     refine gn ?_;exact⟨by simp[Keep,bI],((bt (f:=λ(b:ef×Dat)=>b.2) tY (ba l5)):EV Er _ [some l4] _ _ _) _ (.refl _) _ l6⟩)) ((Gj hq).imp λp9 hq q0 q1 e1 e2=>?_)
    have S:=S.ext e1;have E0:=E0.trans e1;have h7:=Gm e1.g h7;have a0:=Gm e1.g a0;refine br (Er:=Er) (fb (iZ (lN ⋯ (i6<|cI (R:=(vw<|bL K a3 a2)) (cq (R:=(bL K a3 a2)) (k:=1) S) cE)<|lH (ba h7) bO (ba a0)<|ba e2)))<|(Gj hq).imp λl7 hq q2 c9=>?_;have S:=S.ext c9;have E0:=E0.trans c9;have h7:=Gm c9.g h7;have a0:=Gm c9.g a0;have e2:=Gm c9.g e2;by_cases c5:l7=true
    ·rw[Z1 c5]at hq ⊢;exact aA (Er:=Er) jg<|λl8 l9 m0 m1=>hq l8 l9 (E0.trans m0) m1
    ·rw[Z2 c5]at hq ⊢
     try dsimp only[aD]
     exact aA (Er:=Er) (i6<|cI (R:=(vw<|bL K a3 a2)) (cq (R:=(bL K a3 a2)) (k:=1) S)<|cI (R:=(sh<|kq K)) (bt (f:=λ(b:ef×Dat)=>b.1) AW<|eS<|iE (cq (R:=(oL<|eg K)) (k:=2) S)<|jN af)<|cI (R:=(sh<|isL<|qD K)) (HN<|ux<|cI (R:=(pk<|isT2 K (kq K)<|isU K)) (eU<|cq (R:=(oL<|eg K)) (k:=2) S) cE)<|cI (R:=(sh<|isL<|isU K)) (ba e2) cE)<|GP hq λq3 hq m2 m3 m4 m5=>hq m2 m3 (E0.trans m4) m5
end
end Wb
namespace Wb
open PySem L2
section
variable{P:GQ}{w:Ha}{K:Gp}{mg:Str->Option Gv}{base:Heap}
theorem zE{f:Addr}{fd:GJ}{ps:List Str}{k:Nat}:FnOk P w K mg base CX0 k f fd ps (eQ K 0):=⟨λ_ _ _ _ h=>h.elim,λ_ _ _ _ _ _ _ _ _ _ _ _ _ h=>h.elim⟩
theorem kit{K:Gp}(a b:String)(r:Bool)(h:Hh [] (.type a) (.type b)=some r):Hh K (.type a) (.type b)=some r:=by first|exact h|(rw[<-h];rfl)
theorem ia{c:TT}{t rest:TS}{D:Ends}{Y:St}{H:Hp}(h:∀Q:Bool->Hp->Prop,Q false H->c Y H Q)(k:rest D Y H):gA (jb c t aD) rest D Y H:=h _ k
theorem q9{c:TT}{t rest:TS}{D:Ends}{Y:St}{H:Hp}(h:∀Q:Bool->Hp->Prop,Q true H->c Y H Q)(k:t {D with nx:=rest D} Y H):gA (jb c t aD) rest D Y H:=h _ k
local macro_rules | `(tactic|walk_at "S0")=>`(tactic|simp only[dw,bY,dW,bC,tC,f9,ah,aO,d4,aD,cH,bc,d6,bH,dq,tB,gJ,rU,fU,rI,d9,df,aU,bE,gO,dC,gN,dn,bW,bX,gD,bZ,aV,fy,dm,bw,cb,bx,gK,gP,dD,dF,cT,dt,dE,aK,bo,L2.start,Hs,Kx,M8,Kh,Hw,Hc,II,GS,LB,LC,Ks,Kt,LW,exists_eq_left',exists_eq_left,exists_and_left,exists_eq',exists_const,Kf.injEq,PM.injEq,Jp.injEq,V.ref.injEq,V.ty.injEq,Mv,and_true,true_and,reduceCtorEq,false_and,and_false,exists_false,or_false,false_or,decide_eq_true_eq,K0,decide_eq_false_iff_not,if_true,if_false,HY,ite_true,ite_false,N1,MO,N2,N3,and_assoc])
local macro_rules | `(tactic|walk_at "S1")=>`(tactic|simp only[dw,gA,jb,bY,dW,bC,tC,f9,ah,aO,d4,aD,cH,bc,d6,bH,dq,tB,gJ,rU,fU,rI,d9,df,aU,bE,gO,dC,gN,dn,bW,bX,gD,bZ,aV,fy,dm,bw,cb,bx,gK,gP,dD,dF,cT,dt,dE,aK,bo,L2.start,Hs,Kx,M8,Kh,Hw,Hc,II,GS,LB,LC,Ks,Kt,LW,exists_eq_left',exists_eq_left,exists_and_left,exists_eq',exists_const,Kf.injEq,PM.injEq,Jp.injEq,V.ref.injEq,V.ty.injEq,Mv,and_true,true_and,reduceCtorEq,false_and,and_false,exists_false,or_false,false_or,decide_eq_true_eq,K0,decide_eq_false_iff_not,if_true,if_false,HY,ite_true,ite_false,N1,MO,N2,N3,and_assoc])
theorem xx{f:Addr}{fd:GJ}(F:Fun K "_law_same" "_law_same" (tp 66) f fd)(a2:mg "len"=none)(a0:mg "isinstance"=none)(a1:mg "bool"=none)(a3:mg "int"=none)(a7:mg "str"=none)(a8:mg "list"=none)(a9:mg "tuple"=none)(b0:mg "zip"=none){n:Nat}
  (b1:Cal P w K mg base "_law_same" ["_law_found","_law_due"] n (eQ K n)):FnOk P w K mg base CX0 (n+1) f fd ["_law_found","_law_due"] (eQ K<|n+1):=by
 have SC:FnScope ["_law_found","_law_due","_law_one","_law_other"] ["_law_found","_law_due"] (defScope<|tp 66):=by walk_at "F"
 refine F.ok SC (λvs H Q E h=>?_)<|λZ9 A outer s H vs Q E hr h=>?_;·obtain⟨v,u,rfl,_⟩:=h;rfl
 ·obtain⟨v,u,rfl,h⟩:=h;have hr:Room n _:=hr
  refine⟨_,(a6 (bq (N4<|l6 (aG (op_isN.or lq) (pv 1) jD<|aH _)<|l6 (aG (op_isN.or lq) (pv 1) fw<|aH _)<|jF<|aG (op_isN.or lq) (pv 1) fw<|aH _) (ae (ai (l7 (eM cK (aj (bN (K:=K) rfl) (by rfl) a0 Gz (a4 (pv 0) (a4 (dU (v:=.ty "bool") (by rfl) a1 KD rfl) a5))) (aj (bN (K:=K) rfl) (by rfl) a0 Gz (a4 (pv 1) (a4 (dU (v:=.ty "bool") (by rfl) a1 KD rfl) a5)))<|aH _)<|nJ<|eM cK (pv 0) (pv 1)<|aH _))) az)
   (a6 (bq (cO (aj (bN (K:=K) rfl) (by rfl) a0 Gz (a4 (pv 1) (a4 (dU (v:=.ty "int") (by rfl) a3 JT rfl) a5)))) (ae (ai (l7 (aj (bN (K:=K) rfl) (by rfl) a0 Gz (a4 (pv 0) (a4 (dU (v:=.ty "int") (by rfl) a3 JT rfl) a5))) (l7 (qr (aj (bN (K:=K) rfl) (by rfl) a0 Gz (a4 (pv 0) (a4 (dU (v:=.ty "bool") (by rfl) a1 KD rfl) a5))))<|nJ<|eM cK (pv 0) (pv 1)<|aH _)))) az)
   (a6 (bq (cO (aj (bN (K:=K) rfl) (by rfl) a0 Gz (a4 (pv 1) (a4 (dU (v:=.ty "str") (by rfl) a7 IG rfl) a5)))) (ae (ai (l7 (aj (bN (K:=K) rfl) (by rfl) a0 Gz (a4 (pv 0) (a4 (dU (v:=.ty "str") (by rfl) a7 IG rfl) a5)))<|nJ<|eM cK (pv 0) (pv 1)<|aH _))) az)
   (a6 (bq (N4 (l0 (cO (aj (bN (K:=K) rfl) (by rfl) a0 Gz (a4 (pv 1) (a4 (dU (v:=.ty "list") (by rfl) a8 HI rfl) a5)))) (ja (dN (cO (aj (bN (K:=K) rfl) (by rfl) a0 Gz (a4 (pv 0) (a4 (dU (v:=.ty "list") (by rfl) a8 HI rfl) a5)))))))) (ae<|ai fw) az)
   (a6 (bq (N4 (l0 (cO (aj (bN (K:=K) rfl) (by rfl) a0 Gz (a4 (pv 1) (a4 (dU (v:=.ty "tuple") (by rfl) a9 M9 rfl) a5)))) (ja (dN (cO (aj (bN (K:=K) rfl) (by rfl) a0 Gz (a4 (pv 0) (a4 (dU (v:=.ty "tuple") (by rfl) a9 M9 rfl) a5)))))))) (ae<|ai fw) az)
   (a6 (bq (aG A0 (aj (bP (K:=K) rfl) (by rfl) a2 HH<|a4 (pv 0) a5) (aj (bP (K:=K) rfl) (by rfl) a2 HH<|a4 (pv 1) a5)<|aH _) (ae<|ai fw) az)
   (a6 (dO HG rfl (fA (K:=K) rfl rfl b0<|a4 (pv 0)<|a4 (pv 1) a5) (cD (K:=K) (n:=2) rfl rfl (au (aJ (i:=2) SC.nd rfl (by walk_at "L")) (au (aJ (i:=3) SC.nd rfl (by walk_at "L")) cm))) (ae (bq (dN (cO (vP b1 hr (by rfl)<|a4 (pv 2)<|a4 (pv 3) a5))) (ae<|ai fw) az)))
   (ae (ai fw))))))))),?_⟩
  rcases h with⟨he,q⟩|⟨x,y,rfl,rfl,q⟩
  rotate_left
  ·refine ia (λQ q=>?_)<|ia (λQ q=>?_)<|q9 (λQ q=>?_) ?_;·walk_at "S0";exact q
   ·walk_at "S0";exact⟨_,.str _,_,kit "str" "int" false rfl,q⟩
   ·walk_at "S0";exact⟨_,.str _,_,kit "str" "str" true rfl,q⟩
   ·walk_at "S0";refine⟨_,.str _,_,kit "str" "str" true rfl,?_⟩;walk_at "S0";simpa using q
  have fl:∀v,L2.flat v=true->(∀H',Same H H'->Q (.bl true) H')->(v=.non\/(∃b,v=.bl b)\/(∃i,v=.int i)\/∃x,v=.str x):=λv hv _=>by
   cases v with
   |non=>exact .inl rfl
   |bl b=>exact .inr<|.inl ⟨b,rfl⟩
   |int b=>exact .inr<|.inr<|.inl ⟨b,rfl⟩
   |str b=>exact .inr<|.inr<|.inr ⟨b,rfl⟩
   |_=>cases hv
  have he':(v=u/\L2.flat v=true)\/∃m p q xs ys,n=m+1/\v=.ref p/\u=.ref q/\((H p=some (.lst xs)/\H q=some (.lst ys))\/(SqT K H p xs/\SqT K H q ys))/\xs.length=ys.length/\∀(i:Nat)(x y:V),xs[i]? =some x->ys[i]? =some y->EqK K H m x y:=by
   cases n with
   |zero=>exact .inl he
   |succ m=>rcases he with z|⟨p,q,xs,ys,z⟩;exact .inl z;exact .inr ⟨m,p,q,xs,ys,rfl,z⟩
  rcases he' with⟨rfl,hf⟩|⟨m,p,q',xs,ys,hnm,rfl,rfl,hk,hl,hi⟩
  ·rcases fl v hf q with rfl | ⟨b,rfl⟩ | ⟨i,rfl⟩ | ⟨x,rfl⟩
   ·refine q9 (λQ q=>?_) ?_;·walk_at "S0";exact q
    ·walk_at "S0";refine⟨_,.non,_,kit "NoneType" "bool" false rfl,_,.non,_,kit "NoneType" "bool" false rfl,?_⟩;walk_at "S0";exact q H<|.refl H
   ·refine q9 (λQ q=>?_) ?_;·cases b<;>walk_at "S0"<;>exact q
    ·walk_at "S0";refine⟨_,.bl _,_,kit "bool" "bool" true rfl,_,.bl _,_,kit "bool" "bool" true rfl,?_⟩;walk_at "S0";exact q H<|.refl H
   ·refine ia (λQ q=>?_)<|q9 (λQ q=>?_) ?_;·walk_at "S0";exact q
    ·walk_at "S0";exact⟨_,.int _,_,kit "int" "int" true rfl,q⟩
    ·walk_at "S0";refine⟨_,.int _,_,kit "int" "int" true rfl,?_⟩;walk_at "S0";refine⟨_,.int _,_,kit "int" "bool" false rfl,?_⟩;walk_at "S0";exact q H<|.refl H
   ·refine ia (λQ q=>?_)<|ia (λQ q=>?_)<|q9 (λQ q=>?_) ?_;·walk_at "S0";exact q
    ·walk_at "S0";exact⟨_,.str _,_,kit "str" "int" false rfl,q⟩
    ·walk_at "S0";exact⟨_,.str _,_,kit "str" "str" true rfl,q⟩
    ·walk_at "S0";refine⟨_,.str _,_,kit "str" "str" true rfl,?_⟩;walk_at "S0";exact q H<|.refl H
  ·subst hnm;obtain⟨T,tp1,tp2,tl,src1,src2,h1,h2,e1,e2⟩:∃(T:String)(tp1:TyOf K H (.ref p) (.type T))(tp2:TyOf K H (.ref q') (.type T))(tl:(T="list"/\SqL K H p xs/\SqL K H q' ys)\/(T="tuple"/\SqT K H p xs/\SqT K H q' ys))(src1 src2:Src),(∀H',Same H H'->src1.has K H' xs)/\(∀H',Same H H'->src2.has K H' ys)/\src1.val=.ref p/\src2.val=.ref q':=by
    rcases hk with⟨a,b⟩|⟨a,b⟩
    ·exact⟨"list",.lst a,.lst b,.inl ⟨rfl,Ic a,Ic b⟩,.lst p,.lst q',λH' e=>Ic<|e _ _ a,λH' e=>Ic<|e _ _ b,rfl,rfl⟩
    ·exact⟨"tuple",.tup a,.tup b,.inr ⟨rfl,a,b⟩,.tup p,.tup q',λH' e=>Mb e a,λH' e=>Mb e b,rfl,rfl⟩
   have hi0:Hh K (.type T) (.type "int")=some false:=by rcases tl with⟨rfl,_⟩|⟨rfl,_⟩;exact kit _ _ _ rfl;exact kit _ _ _ rfl
   have hs0:Hh K (.type T) (.type "str")=some false:=by rcases tl with⟨rfl,_⟩|⟨rfl,_⟩;exact kit _ _ _ rfl;exact kit _ _ _ rfl
   obtain⟨bl,hl0,hl1⟩:∃bl,Hh K (.type T) (.type "list")=some bl/\Hh K (.type T) (.type "tuple")=some (!bl):=by rcases tl with⟨rfl,_⟩|⟨rfl,_⟩;exact⟨true,kit _ _ _ rfl,kit _ _ _ rfl⟩;exact⟨false,kit _ _ _ rfl,kit _ _ _ rfl⟩
   have ln1:oS K (.ref p) H xs.length:=by rcases tl with⟨_,t1,_⟩|⟨_,t1,_⟩;exact .inl ⟨_,t1,rfl⟩;exact .inr ⟨_,t1,rfl⟩
   have ln2:oS K (.ref q') H ys.length:=by rcases tl with⟨_,_,t2⟩|⟨_,_,t2⟩;exact .inl ⟨_,t2,rfl⟩;exact .inr ⟨_,t2,rfl⟩
   refine ia (λQ q=>?_)<|ia (λQ q=>?_)<|ia (λQ q=>?_)<|ia (λQ q=>?_)<|ia (λQ q=>?_)<|ia (λQ q=>?_) ?_;·walk_at "S0";exact q
   ·walk_at "S0";exact⟨_,tp2,_,hi0,q⟩
   ·walk_at "S0";exact⟨_,tp2,_,hs0,q⟩
   ·walk_at "S0";refine⟨_,tp2,_,hl0,?_⟩;cases bl with
    |false=>exact q
    |true=>walk_at "S0";exact⟨_,tp1,_,hl0,q⟩
   ·walk_at "S0";refine⟨_,tp2,_,hl1,?_⟩;cases bl with
    |true=>exact q
    |false=>walk_at "S0";exact⟨_,tp1,_,hl1,q⟩
   ·walk_at "S0";refine⟨_,ln1,_,ln2,?_⟩;simp only[hl,dw,bY,dW,bC,tC,f9,ah,aO,d4,aD,cH,bc,d6,bH,dq,tB,gJ,rU,fU,rI,d9,df,aU,bE,gO,dC,gN,dn,bW,bX,gD,bZ,aV,fy,dm,bw,cb,bx,gK,gP,dD,dF,cT,dt,dE,aK,bo,L2.start,Hs,Kx,M8,Kh,Hw,Hc,II,GS,LB,LC,Ks,Kt,LW,exists_eq_left',exists_eq_left,exists_and_left,exists_eq',exists_const,Kf.injEq,PM.injEq,Jp.injEq,V.ref.injEq,V.ty.injEq,Mv,and_true,true_and,reduceCtorEq,false_and,and_false,exists_false,or_false,false_or,decide_eq_true_eq,K0,decide_eq_false_iff_not,if_true,if_false,HY,ite_true,ite_false,N1,MO,N2,N3,and_assoc];exact q
   ·walk_at "S1";refine⟨_,rfl,_,rfl,src1,src2,xs,ys,by rw[e1,e2],h1 H<|.refl H,h2 H<|.refl H,yJ (λi Y H2=>Same H H2/\∃a b,Y=[some (.ref p),some<|.ref q',a,b]) ⟨.refl H,none,none,rfl⟩ (λi Y H2⟨e,_⟩=>⟨h1 H2 e,h2 H2 e⟩) hl ?_ ?_⟩
    ·rintro i x y r Y H2 hx hy hr' ⟨e,a,b,rfl⟩;walk_at "S1";refine⟨_,NT ao,rfl,?_⟩;walk_at "S1";refine⟨x,y,rfl,.inl ⟨(hi i x y hx hy).same (e.trans<|ej hr'),λH3 e3=>?_⟩⟩;walk_at "S1";exact e.trans<|(ej hr').trans e3
    ·rintro Y H2 ⟨e,a,b,rfl⟩;walk_at "S1";exact q H2 e
def sN(K:Gp):Sp:=λvs H Q _=>∃(a:Addr)(ns:List Int),vs=[.ref a]/\SqL K H a (ns.map Kf)/\ns.length<=63/\∀H',Q (.bl true) H'
end
end Wb
namespace Mi
theorem nA{s:List Int}(hs:s.length<=63)(k:Nat)(hk:k<=200):∃n,iI s (k:Int)=.ok n:=by
 unfold iI DM;by_cases h:(k:Int)<(s.length:Int)
 ·rw[Z1 (by simpa using h)];obtain⟨x,e,_⟩:=fg (xs:=s) (i:=(k:Int)) (by omega) h;exact⟨x,e⟩
 ·rw[Z2 (by simpa using h),wg (by omega) (by omega)];exact⟨_,rfl⟩
theorem Bl(c b:Int)(hb:1<=b)(hb2:b<1073741824)(k:Nat)(s:Int×Int×List Int)(h1:0<=s.2.1)(hl:s.2.2.length<100000):∃s':Int×Int×List Int,BI c b (k:Int) s=.ok s'/\0<=s'.2.1/\∃v,0<=v/\v<b/\s'.2.2=s.2.2++[v]:=by
 unfold BI;have hm0:=HL (s.1*48271+7919+(k:Int)) (show(2147483647:Int)≠0 by decide);have hm1:=Ho (s.1*48271+7919+(k:Int)) (show(0:Int)<2147483647 by decide);generalize (s.1*48271+7919+(k:Int))%2147483647=mx at*
 have other:∀z:Int,0<=z%b/\z%b<b:=λz=>⟨HL _ (by omega),Ho _ (by omega)⟩
 have A:∀z:Int,eG s.2.2 z=.ok (s.2.2++[z]):=λz=>eA hl;have e2:((((pj mx mx).bind λa0=>Gr<|a0%1000003).bind λa1=>mj a1 b).bind λa2=>eG s.2.2 a2)=.ok (s.2.2++[mx*mx%1000003%b]):=by
  rw[pD (by omega) (by omega)];simp only[Gk];rw[jj (by omega)];exact A _
 have e1:((mj s.2.1 b).bind λa3=>eG s.2.2 a3)=.ok (s.2.2++[s.2.1%b]):=by rw[jj (by omega)];exact A _
 by_cases hf:(1000000000000000000:Int)<=en c
 ·rw[decide_eq_true hf];by_cases hp:0<s.2.1
  ·rw[decide_eq_true hp];simp only[if_true,Gk,e1,we (show 0<b by omega) hb2];exact⟨_,rfl,Int.ediv_nonneg h1 (by omega),_,(other _).1,(other _).2,rfl⟩
  ·rw[decide_eq_false hp];simp only[if_true,Gk,HY,if_false,e2];exact⟨_,rfl,h1,_,(other _).1,(other _).2,rfl⟩
 ·rw[decide_eq_false hf];simp only[Gk,HY,if_false,e2];exact⟨_,rfl,h1,_,(other _).1,(other _).2,rfl⟩
theorem r6(c:Int)(n:Nat)(b:Int)(hn:n<=1000)(hb:1<=b)(hb2:b<1073741824):∃ns,lX c (n:Int) b=.ok ns/\ns.length=n/\∀x∈ns,0<=x/\x<b:=by
 unfold lX DN;rw[jR (by omega),Gk];obtain⟨s,e,h0,hl,hb⟩:=fj (f:=BI c b) (λpre(s:Int×Int×List Int)=>0<=s.2.1/\s.2.2.length=pre.length/\∀x∈s.2.2,0<=x/\x<b) ((JJ n).map λ(i:Nat)=>(i:Int)) ((en c)%2147483647,en c,[]) ⟨yX c,rfl,by simp⟩ (by
  intro pre a post s e ⟨h0,hl,hb'⟩;have hlen:pre.length<n:=by have:=congrArg ID e;simp at this;omega
  obtain⟨k,rfl⟩:∃k:Nat,a=(k:Int):=by
   have:a∈(JJ n).map λ(i:Nat)=>(i:Int):=by rw[e];simp
   obtain⟨k,_,hk⟩:=GL.mp this;exact⟨k,hk.symm⟩
  obtain⟨s',e',h0',v,v0,v1,ev⟩:=Bl c b hb hb2 k s h0 (by omega);refine⟨s',e',h0',by rw[ev];simp[hl],λx hx=>?_⟩;rw[ev]at hx;rcases Io.mp hx with z|z;·exact hb' x z
  ·rw[IJ.mp z];exact⟨v0,v1⟩)
 rw[e];exact⟨_,rfl,by rw[hl];simp,hb⟩
def isTurn(c:Nat):Prop:=c=102\/c=98\/c=105
instance zkeep89(c:Nat):Decidable (isTurn c):=by unfold isTurn;infer_instance
def Turns(t:Tx):Prop:=∀c∈t,isTurn c
structure Card(t:Cd):Prop where
 lay:t.1=[83]\/t.1=[90]
 four:t.2.1.length=4
 col:∀c∈t.2.1,97<=c/\c<=122
 low:0<=t.2.2
 high:t.2.2<4
abbrev Sp:=List<|Tx×Int
def ky(d:Sp):List Tx:=d.map (·.1)
theorem xy(d:Sp)(k k':Tx)(a:Int):look (fe d k a) k'=if k'=k then some a else look d k':=by
 unfold fe;by_cases h:(d.any λp=>decide<|p.1=k)=true
 ·rw[Z1 h]
  induction d with
  |nil=>cases h
  |cons p d ih=>
   rw[Hs];by_cases e:p.1=k
   ·rw[Z1 e];by_cases e2:k'=k;·rw[Z1 e2];unfold look;rw[IX (by simp[e,e2])];rfl
    ·rw[Z2 e2];have n1:¬p.1=k':=λz=>e2<|z.symm.trans e;unfold look;rw[Hy (by simpa using n1),Hy (by simpa using n1)];by_cases h2:(d.any λp=>decide<|p.1=k)=true
     ·have:=ih h2;rw[Z2 e2]at this;exact this
     ·have:(d.map λkv=>if kv.1=k then(kv.1,a)else kv)=d:=by
       rw[Iz (g:=id),O1];intro q hq;rw[Z2 λz=>h2 (KZ.mpr ⟨q,hq,by simpa using z⟩)];rfl
      rw[this]
   ·rw[Z2 e];have h2:(d.any λp=>decide<|p.1=k)=true:=by simpa [e] using h
    have:=ih h2;unfold look at this ⊢;by_cases e3:p.1=k';·rw[IX (by simpa using e3),IX (by simpa using e3),Z2 λz=>e<|e3.trans z]
    ·rw[Hy (by simpa using e3),Hy (by simpa using e3)];exact this
 ·rw[Z2 h];unfold look;rw[List.find?_append];by_cases e2:k'=k
  ·subst e2;have:d.find? (λp=>decide<|p.1=k')=none:=Nh.mpr λp hp z=>h<|KZ.mpr ⟨p,hp,z⟩;rw[this,Z1 rfl];simp
  ·rw[Z2 e2];cases q:d.find? (λp=>decide<|p.1=k')with
   |some x=>rfl
   |none=>
    rw[Option.none_or,Hy (by simpa using λz=>e2 z.symm)];rfl
theorem xA(d:Sp)(k:Tx):(d.any λp=>decide<|p.1=k)=true↔k∈ky d:=by
 unfold ky;rw[KZ,GL];simp
theorem lZ(d:Sp)(k:Tx)(a:Int):ky (fe d k a)=if k∈ky d then ky d else ky d++[k]:=by
 unfold fe;by_cases h:k∈ky d
 ·rw[Z1<|(xA d k).mpr h,Z1 h];unfold ky;rw[HP];refine Iz λp _=>?_;show(if p.1=k then(p.1,a)else p).1=p.1;split<;>rfl
 ·rw[Z2 λz=>h<|(xA d k).mp z,Z2 h];unfold ky;simp
theorem look_mem{d:Sp}{k:Tx}:k∈ky d↔∃v,look d k=some v:=by
 unfold look;constructor
 ·intro h;obtain⟨p,h1,h2⟩:=GL.mp h;cases q:d.find? (λp=>decide<|p.1=k)with
  |some x=>exact⟨x.2,rfl⟩
  |none=>exact absurd (Nh.mp q p h1) (by simpa using h2)
 ·rintro ⟨v,h⟩;obtain⟨p,h1,h2⟩:=Ir.mp h;exact GL.mpr ⟨p,LK h1,by simpa using Od h1⟩
theorem sO{d:Sp}(nd:(ky d).Nodup){p:Tx×Int}(h:p∈d):look d p.1=some p.2:=by
 induction d with
 |nil=>cases h
 |cons q d ih=>
  have nd':q.1∉ky d/\(ky d).Nodup:=HQ.mp nd;unfold look;rcases GK.mp h with rfl|h
  ·rw[IX (by simp)];rfl
  ·have:¬q.1=p.1:=λz=>nd'.1<|z▸GL.mpr ⟨p,h,rfl⟩;rw[Hy (by simpa using this)];exact ih nd'.2 h
theorem jA(d:Sp)(k k':Tx)(a:Int):cf (fe d k a) k' 0=if k'=k then a else cf d k' 0:=by
 unfold cf;rw[xy];split<;>rfl
theorem gz{d:Sp}{k:Tx}(h:k∉ky d):cf d k 0=0:=by
 unfold cf;cases q:look d k with
 |none=>rfl
 |some v=>exact absurd (look_mem.mpr ⟨v,q⟩) h
theorem fZ{d:Sp}(nd:(ky d).Nodup){p:Tx×Int}(h:p∈d):cf d p.1 0=p.2:=by
 unfold cf;rw[sO nd h];rfl
theorem xB:∀{d e:Sp},(ky d).Nodup->ky d=ky e->(∀k,cf d k 0=cf e k 0)->d=e
 | [],[],_,_,_=>rfl
 | [],_::_,_,h,_=>by cases h
 |_::_,[],_,h,_=>by cases h
 |p::d,q::e,nd,h,g=>by
  have nd':p.1∉ky d/\(ky d).Nodup:=HQ.mp nd;have h1:p.1=q.1/\ky d=ky e:=by
   unfold ky at h ⊢;simpa using h
  have nde:(ky (q::e)).Nodup:=h▸nd;have a1:=fZ nd<|GD (a:=p) (l:=d);have a2:=fZ nde<|GD (a:=q) (l:=e);have ep:p=q:=by
   refine Prod.ext h1.1 ?_;rw[<-a1,<-a2,g p.1,h1.1]
  subst ep;rw[xB nd'.2 h1.2 λk=>?_];have:=g k;unfold cf look at this ⊢;by_cases z:p.1=k
  ·have o1:k∉ky d:=z▸nd'.1;have o2:k∉ky e:=h1.2▸o1;exact(gz o1).trans (gz o2).symm
  ·rw[Hy (by simpa using z),Hy (by simpa using z)]at this;exact this
theorem kX(d:Sp)(k:Tx)(a:Int):(fe d k a).length<=d.length+1:=by unfold fe;split<;>simp
theorem xC{d:Sp}(nd:(ky d).Nodup)(k:Tx)(a:Int):(ky<|fe d k a).Nodup:=by
 rw[lZ];split;·exact nd
 ·rename_i h;refine List.nodup_append.mpr ⟨nd,by simp,λx hx y hy e=>?_⟩;have:y=k:=by simpa using hy
  subst this;subst e;exact h hx
def jB(L:Sp)(k:Tx):Int:=(L.map λp=>if p.1=k then p.2 else 0).sum
theorem fH(p:Tx×Int)(L:Sp)(k:Tx):jB (p::L) k=(if p.1=k then p.2 else 0)+jB L k:=by unfold jB;simp
theorem zF{L:Sp}(h:∀p∈L,0<=p.2)(k:Tx):0<=jB L k:=by
 induction L with
 |nil=>exact O0 _
 |cons p L ih=>
  rw[fH];have h1:=h p<|GD ..;have h2:=ih λq hq=>h q<|GB _ hq;split<;>omega
theorem xD{L:Sp}(h:∀p∈L,0<p.2){k:Tx}(hk:k∈ky L):0<jB L k:=by
 induction L with
 |nil=>cases hk
 |cons p L ih=>
  rw[fH];have h1:=h p<|GD ..;have h2:=zF (L:=L) (λq hq=>by have:=h q<|GB _ hq;omega) k;by_cases z:p.1=k;·rw[Z1 z];omega
  ·have:k∈ky L:=by
    rcases GK.mp hk with e|e;·exact absurd e.symm z
    ·exact e
   have:=ih (λq hq=>h q<|GB _ hq) this;rw[Z2 z];omega
theorem xE(L:Sp)(k:Tx):jB (L.map λp=>(p.1, -p.2)) k= -jB L k:=by
 induction L with
 |nil=>rfl
 |cons p L ih=>rw[Hs,fH,fH,ih];split<;>omega
theorem xF{L:Sp}{k:Tx}(h:k∉ky L):jB L k=0:=by
 induction L with
 |nil=>rfl
 |cons p L ih=>
  have h':p.1≠k/\k∉ky L:=⟨λz=>h<|z▸GD ..,λz=>h<|GB _ z⟩
  rw[fH,Z2 h'.1,ih h'.2];rfl
def uG(p:Tx×Int)(s:Sp):Res Sp:=gr s p.1<|cf s p.1 0+p.2
theorem r9:∀(L s:Sp),(ky s).Nodup->s.length+L.length<1000->∃r,cg uG L s=.ok r/\(ky r).Nodup/\(∀k,cf r k 0=cf s k 0+jB L k)/\(∀k,k∈ky r↔k∈ky s\/k∈ky L)/\r.length<=s.length+L.length/\((∀p∈L,p.1∈ky s)->ky r=ky s)
 | [],s,nd,hl=>⟨s,rfl,nd,λk=>by unfold jB;simp,λk=>by unfold ky;simp,by simp,λ_=>rfl⟩
 |p::L,s,nd,hl=>by
  simp only[Hc]at hl;have hp:=kX s p.1<|cf s p.1 0+p.2;obtain⟨r,e,h1,h2,h3,h4,h5⟩:=r9 L (fe s p.1<|cf s p.1 0+p.2) (xC nd _ _) (by omega);refine⟨r,?_,h1,λk=>?_,λk=>?_,by simp only[Hc];omega,λh=>?_⟩
  ·show(uG p s).bind _=_;rw[show uG p s=.ok (fe s p.1<|cf s p.1 0+p.2)from aQ (by show s.length<100000;omega),Gk];exact e
  ·rw[h2,jA,fH];by_cases z:k=p.1;·subst z;rw[Z1 rfl,Z1 rfl];omega
   ·rw[Z2 z,Z2<|HW z];omega
  ·rw[h3,lZ];have:k∈ky (p::L)↔k=p.1\/k∈ky L:=GK;rw[this];split
   ·rename_i z;constructor
    ·rintro (h | h);·exact .inl h
     ·exact .inr<|.inr h
    ·rintro (h | rfl | h);·exact .inl h
     ·exact .inl z
     ·exact .inr h
   ·rw[Io,IJ,or_assoc]
  ·have hin:p.1∈ky s:=h p<|GD ..;have e2:ky (fe s p.1<|cf s p.1 0+p.2)=ky s:=by rw[lZ,Z1 hin]
   rw[h5 λq hq=>by rw[e2];exact h q<|GB _ hq,e2]
theorem qa{O S:Type}{f:O->S->Res S}:∀(l r:List O)(s:S),cg f (l++r) s=(cg f l s).bind (cg f r)
 | [],r,s=>rfl
 |a::l,r,s=>by
  show(f a s).bind _=((f a s).bind _).bind _;cases f a s with
  |ok b=>exact qa l r b
  |err j=>rfl
  |stuck=>rfl
theorem k4{O B S:Type}{f:B->S->Res S}{g:O->List B}:∀(l:List O)(s:S),cg f (l.flatMap g) s=cg (λa s=>cg f (g a) s) l s
 | [],s=>rfl
 |a::l,s=>by
  rw[LX,qa];show _=(cg f (g a) s).bind _;congr 1;funext b;exact k4 l b
theorem fQ{O S:Type}{f g:O->S->Res S}:∀(l:List O)(s:S),(∀a∈l,∀s,f a s=g a s)->cg f l s=cg g l s
 | [],s,_=>rfl
 |a::l,s,h=>by
  show(f a s).bind _=(g a s).bind _;rw[h a<|GD ..];congr 1;funext b;exact fQ l b λx hx=>h x<|GB _ hx
theorem eY{O B S:Type}{f:B->S->Res S}{g:O->B}:∀(l:List O)(s:S),cg f (l.map g) s=cg (λa s=>f (g a) s) l s
 | [],s=>rfl
 |a::l,s=>by
  show(f (g a) s).bind _=(f (g a) s).bind _;congr 1;funext b;exact eY l b
theorem qb:∀(T s:Sp),(ky T).Nodup->(ky s).Nodup->s.length<1000->(∀p∈T,0<p.2/\p.1.length<=100)->(∀p∈T,p.2<=cf s p.1 0)->∃r,cg uF T s=.ok r/\ky r=ky s/\∀k,cf r k 0=cf s k 0-cf T k 0
 | [],s,_,_,_,_,_=>⟨s,rfl,rfl,λk=>by show _=_-0;omega⟩
 |p::T,s,ndT,nds,hl,hp,hg=>by
  have nd':p.1∉ky T/\(ky T).Nodup:=HQ.mp ndT;have h1:=hg p<|GD ..;have h2:=(hp p<|GD ..).1;have hin:p.1∈ky s:=HX λz=>by rw[gz z]at h1;omega
  obtain⟨v,hv⟩:=look_mem.mp hin;have gv:cf s p.1 0=v:=by unfold cf;rw[hv];rfl
  have e1:uF p s=.ok (fe s p.1<|v-p.2):=by
   unfold uF;rw[Z2 (by simpa using h1),show getD s p.1=.ok v from by unfold getD;rw[hv];rfl,Gk,show gr s p.1 (v-p.2)=.ok _ from aQ (by show s.length<100000;omega)];rfl
  have ek:ky (fe s p.1<|v-p.2)=ky s:=by rw[lZ,Z1 hin]
  have ne:∀q∈T,q.1≠p.1:=λq hq z=>nd'.1<|z▸GL.mpr ⟨q,hq,rfl⟩;have el:(fe s p.1<|v-p.2).length=s.length:=by
   have:=congrArg ID ek;unfold ky at this;simpa using this
  obtain⟨r,e,k1,k2⟩:=qb T (fe s p.1<|v-p.2) nd'.2 (by rw[ek];exact nds) (by omega) (λq hq=>hp q<|GB _ hq) (λq hq=>by rw[jA,Z2<|ne q hq];exact hg q<|GB _ hq);refine⟨r,?_,k1.trans ek,λk=>?_⟩
  ·show(uF p s).bind _=_;rw[e1,Gk];exact e
  ·rw[k2,jA];by_cases z:k=p.1
   ·subst z;rw[Z1 rfl,gz nd'.1,gv,fZ ndT<|GD ..];omega
   ·have:cf (p::T) k 0=cf T k 0:=by
     unfold cf look;rw[Hy (by simpa using λy=>z y.symm)]
    rw[Z2 z,this]
theorem nE:∀(T s:Sp),(ky T).Nodup->(ky s).Nodup->s.length<1000->(∀p∈T,0<p.2/\p.1.length<=100)->(∃p∈T,cf s p.1 0<p.2)->cg uF T s=.err 6
 | [],s,_,_,_,_,h=>by obtain⟨p,hp,_⟩:=h;cases hp
 |p::T,s,ndT,nds,hl,hp,hg=>by
  have nd':p.1∉ky T/\(ky T).Nodup:=HQ.mp ndT;have h2:=(hp p<|GD ..).1;have h3:=(hp p<|GD ..).2;by_cases c:cf s p.1 0<p.2
  ·show(uF p s).bind _=_;unfold uF;rw[Z1 (by simpa using c),bg (by simp),Gk,bg (by simp;omega),Gk,bg (by simp;omega),Gk,Gk];rw[show jT _=Gr _ from aQ (by unfold cap;simp;omega),Gk];rfl
  ·have h1:p.2<=cf s p.1 0:=by omega
   have hin:p.1∈ky s:=HX λz=>by rw[gz z]at h1;omega
   obtain⟨v,hv⟩:=look_mem.mp hin;have e1:uF p s=.ok (fe s p.1<|v-p.2):=by
    unfold uF;rw[Z2 (by simpa using h1),show getD s p.1=.ok v from by unfold getD;rw[hv];rfl,Gk,show gr s p.1 (v-p.2)=.ok _ from aQ (by show s.length<100000;omega)];rfl
   have ek:ky (fe s p.1<|v-p.2)=ky s:=by rw[lZ,Z1 hin]
   have ne:∀q∈T,q.1≠p.1:=λq hq z=>nd'.1<|z▸GL.mpr ⟨q,hq,rfl⟩;have el:(fe s p.1<|v-p.2).length=s.length:=by
    have:=congrArg ID ek;unfold ky at this;simpa using this
   show(uF p s).bind _=_;rw[e1,Gk];refine nE T _ nd'.2 (by rw[ek];exact nds) (by omega) (λq hq=>hp q<|GB _ hq) ?_;obtain⟨q,hq,hlt⟩:=hg;rcases GK.mp hq with rfl|hq
   ·exact absurd hlt c
   ·exact⟨q,hq,by rw[jA,Z2<|ne q hq];exact hlt⟩
def go(c:Nat):Int:=if c=102 then 1 else if c=98 then -1 else 0
def tw(t:Cd)(c:Nat):Int:=if t.1=[83]then go c else -go c
def j8(t:Cd)(i:Int):Nat:=t.2.1[i.toNat]?.getD 0
def xG(i:Int):Nat:=if i=1 then 115 else if i= -1 then 122 else 111
def behind(t:Cd)(c:Nat):Cd:=(t.1,t.2.1,(t.2.2+go c)%4)
def qc(t:Cd)(c:Nat):Pl:=([j8 t t.2.2],[j8 t ((t.2.2+2)%4)],[xG (tw t c)])
theorem Dj(c:Nat): -1<=go c/\go c<=1:=by unfold go;split;omega;split<;>omega
theorem Aj(t:Cd)(c:Nat): -1<=tw t c/\tw t c<=1:=by have:=Dj c;unfold tw;split<;>omega
theorem Card.behind{t:Cd}(h:Card t)(c:Nat):Card (behind t c):=⟨h.lay,h.four,h.col,HL _ ⋯,Ho _ ⋯⟩
theorem Ak{c:Nat}(h:isTurn c):qm [c]=.ok (go c):=by
 unfold qm E8;rcases h with rfl|rfl|rfl<;>rfl
theorem uH{t:Cd}{c:Nat}(h:isTurn c):yg t [c]=.ok (behind t c):=by
 unfold yg Ea;rw[Ak h];rfl
theorem qd{t:Cd}{c:Nat}(h:isTurn c):nv t [c]=.ok (tw t c):=by
 unfold nv E9;rw[Ak h];by_cases z:t.1=[83]
 ·rw[Z1 (by simpa using z)];unfold tw;rw[Z1 z]
 ·rw[Z2 (by simpa using z)];unfold tw;rw[Z2 z];simp only[Gk];congr 1;omega
theorem eE{t:Cd}(h:Card t){i:Int}(h0:0<=i)(h1:i<4):iX t.2.1 i=.ok [j8 t i]:=B2 h0 (by rw[h.four];exact h1) (by rw[h.four];decide)
theorem uI(i:Int):0<=i%4/\i%4<4:=⟨HL _ ⋯,Ho _ ⋯⟩
theorem Bm{i:Int}(h: -1<=i/\i<=1):iX ([122,111,115]:Tx) (i+1)=.ok [xG i]:=by
 have:i= -1\/i=0\/i=1:=by omega
 rcases this with rfl|rfl|rfl<;>rfl
theorem Bn{t:Cd}(h:Card t):jz t=.ok [j8 t t.2.2]:=by
 unfold jz sH;rw[show t.2.2%4=t.2.2 from Int.emod_eq_of_lt h.low h.high,eE h h.low h.high]
theorem uJ{t:Cd}(h:Card t):zA t=.ok [j8 t ((t.2.2+2)%4)]:=by
 unfold zA Ei;rw[eE h (uI _).1 (uI _).2]
theorem ku{t:Cd}{c:Nat}(h:isTurn c):pZ t [c]=.ok (tw t c):=by
 unfold pZ Ee;have e:getD ([([102],1),([98],(-1)),([105],0)]:List (Tx×Int)) [c]=.ok (go c):=by rcases h with rfl|rfl|rfl<;>rfl
 rw[e,Gk];by_cases z:t.1=[83]
 ·rw[Z1 (by simpa using z)];unfold tw;rw[Z1 z]
 ·rw[Z2 (by simpa using z)];unfold tw;rw[Z2 z]
theorem uK{i:Int}(h: -1<=i/\i<=1):getD ([(1,[115]),((-1),[122]),(0,[111])]:List (Int×Tx)) i=.ok [xG i]:=by
 have:i= -1\/i=0\/i=1:=by omega
 rcases this with rfl|rfl|rfl<;>rfl
theorem zG{t:Cd}(h:Card t){c:Nat}(hc:isTurn c):yj t [c]=.ok (qc t c):=by
 unfold yj Ej;simp only[Bn h,uJ h,ku hc,Gk,uK<|Aj t c];rfl
def ib(c:Nat):Bool:=decide<|isTurn c
theorem turnB_iff{c:Nat}:ib c=true↔isTurn c:=decide_eq_true_iff
def qe(x:Tx)(n:Nat):Bool:=decide (x.length=n)&&x.all ib
theorem iP(c:Nat):([102,98,105]:Tx).contains c=ib c:=by
 rw[HZ,turnB_iff];simp[isTurn]
theorem uL{x:Tx}(hl:x.length<=10000)(n:Nat):yh x (n:Int)=.ok (qe x n):=by
 unfold yh Ed qe;rw[om (by omega)];simp only[Gk];by_cases z:x.length=n
 ·rw[Z1 (by simp[z]),cA (g:=λt:Tx=>ib<|t.headD 0) (by show(aW x).length<=100000;simp[aW];omega) (λt ht=>by
   obtain⟨c,hc,rfl⟩:=iA ht;show Gr _=_;rw[iP];rfl),Gk,decide_eq_true z,Pf]
  congr 1;simp[aW,List.all_map,Function.comp_def]
  try rfl
 ·rw[Z2 (by simp;omega),decide_eq_false z];rfl
theorem rf{x:Tx}{n:Nat}(h:qe x n=true):x.length=n/\Turns x:=by
 unfold qe at h;simp only[NS,decide_eq_true_eq,KU]at h;exact⟨h.1,λc hc=>turnB_iff.mp<|h.2 c hc⟩
theorem four{x:Tx}(h:x.length=4):∃a b c d,x=[a,b,c,d]:=by
 match x,h with
 | [a,b,c,d],_=>exact⟨a,b,c,d,rfl⟩
def kA(t:Cd):Cd:=(if t.1=[83]then [90]else [83],[j8 t 0,j8 t 3,j8 t 2,j8 t 1],(0-t.2.2)%4)
theorem qf{t:Cd}(h:Card t):xm t=.ok (kA t):=by
 unfold xm E7;have e1:((yM ([83,90]:Tx) t.1).bind λy5=>iX ([90,83]:Tx) y5)=.ok (if t.1=[83]then [90]else [83]):=by
  rcases h.lay with e|e<;>rw[e]<;>rfl
 rw[e1];simp only[Gk,eE h (show(0:Int)<=0 by decide) ⋯,eE h (show(0:Int)<=3 by decide) ⋯,eE h (show(0:Int)<=2 by decide) ⋯,eE h (show(0:Int)<=1 by decide) ⋯];rfl
theorem Bo{t:Cd}(h:Card t){x:Tx}(e:∀c∈x,∃i:Int,0<=i/\i<4/\c=j8 t i):∀c∈x,97<=c/\c<=122:=λc hc=>by
 obtain⟨i,h0,h1,rfl⟩:=e c hc;unfold j8;have:i.toNat<t.2.1.length:=by rw[h.four];omega
 simp only[Hj this,JF];exact h.col _<|M4 this
theorem Card.flip{t:Cd}(h:Card t):Card (kA t):=by
 refine⟨?_,rfl,Bo h λc hc=>?_,(uI _).1,(uI _).2⟩
 ·unfold kA;split;·exact .inr rfl
  ·exact .inl rfl
 ·have:c=j8 t 0\/c=j8 t 3\/c=j8 t 2\/c=j8 t 1:=by simpa [kA] using hc
  rcases this with rfl|rfl|rfl|rfl;·exact⟨0,by decide,by decide,rfl⟩
  ·exact⟨3,by decide,by decide,rfl⟩
  ·exact⟨2,by decide,by decide,rfl⟩
  ·exact⟨1,by decide,by decide,rfl⟩
theorem F5(a b:Dat):jl (.t [a,b]) 0=.ok a:=rfl
theorem F6(a b:Dat):jl (.t [a,b]) 1=.ok b:=rfl
theorem F7(a b c:Dat):jl (.t [a,b,c]) 0=.ok a:=rfl
theorem F8(a b c:Dat):jl (.t [a,b,c]) 1=.ok b:=rfl
theorem F9(a b c:Dat):jl (.t [a,b,c]) 2=.ok c:=rfl
theorem Fb(a:Dat):jl (.t [a]) 0=.ok a:=rfl
theorem xH(sz:Int)(ds:List Int)(hsz:1<=sz)(hd:ds.length=5)(a:Int)(t:Tx)(ht:t.length<1000):∃c,97<=c/\c<=122/\BJ sz ds a t=.ok (t++[c]):=by
 unfold BJ;obtain⟨x,e,_⟩:=fg (xs:=ds) (i:=4) ⋯ (by rw[hd];decide);rw[e];simp only[Gk,jj (show 0<sz by omega)];have h0:=HL (x+a%sz*7) (show(26:Int)≠0 by decide);have h1:=Ho (x+a%sz*7) (show(0:Int)<26 by decide);generalize (x+a%sz*7)%26=r at h0 h1;obtain⟨c,e2,h2⟩:=jk (x:=([97,98,99,100,101,102,103,104,105,106,107,108,109,110,111,112,113,114,115,116,117,118,119,120,121,122]:Tx)) (i:=r) h0 (by simp;omega) ⋯;rw[e2];simp only[Gk,bg (show t.length+[c].length<=100000 by simp;omega)];have hc:c∈([97,98,99,100,101,102,103,104,105,106,107,108,109,110,111,112,113,114,115,116,117,118,119,120,121,122]:Tx):=Hq h2;have:∀c∈([97,98,99,100,101,102,103,104,105,106,107,108,109,110,111,112,113,114,115,116,117,118,119,120,121,122]:Tx),97<=c/\c<=122:=by decide
 exact⟨c,(this c hc).1,(this c hc).2,rfl⟩
theorem xI(c:Int):∃t,zo c=.ok t/\t.length=4/\∀x∈t,97<=x/\x<=122:=by
 unfold zo DO;have h0:=HL c (show(5:Int)≠0 by decide);have h1:=Ho c (show(0:Int)<5 by decide);obtain⟨sz,e,h2⟩:=fg (xs:=[(1:Int),2,3,4,26]) (i:=c%5) h0 (by simp;omega);have hsz:1<=sz:=by
  have:∀x∈[(1:Int),2,3,4,26],1<=x:=by decide
  exact this sz<|Hq h2
 rw[e,Gk];obtain⟨ds,e2,hd,_⟩:=r6 (c/5) 5 26 ⋯ ⋯ ⋯;rw[show lX (c/5) 5 26=Gr ds from e2,Gk,show cut ds none (some 4)=ds.take 4 from wm ds 4];obtain⟨t,e3,h3,h4⟩:=fj (f:=BJ sz ds) (λpre t=>t.length=pre.length/\∀x∈t,97<=x/\x<=122) (ds.take 4) [] ⟨rfl,by simp⟩ (by
  intro pre a post t e ⟨hl,hb⟩;have hlen:pre.length<5:=by have:=congrArg ID e;simp at this;omega
  obtain⟨c,c0,c1,ec⟩:=xH sz ds hsz hd a t (by omega);refine⟨_,ec,by simp[hl],λx hx=>?_⟩;rcases Io.mp hx with z|z;·exact hb x z
  ·rw[IJ.mp z];exact⟨c0,c1⟩)
 rw[e3];exact⟨t,rfl,by rw[h3,Kd];omega,h4⟩
theorem zH(c:Int):∃t,ye c=.ok t/\Card t:=by
 unfold ye DP;have h0:=HL c (show(2:Int)≠0 by decide);have h1:=Ho c (show(0:Int)<2 by decide);obtain⟨y,e,h2⟩:=jk (x:=([83,90]:Tx)) (i:=c%2) h0 (by simp;omega) ⋯;obtain⟨t,e2,hl,hb⟩:=xI<|c/8;rw[e,Gk,e2,Gk];refine⟨_,rfl,?_,hl,hb,HL _ ⋯,Ho _ ⋯⟩;have:y=83\/y=90:=by simpa using Hq h2
 rcases this with rfl|rfl;·exact .inl rfl
 ·exact .inr rfl
theorem rg(d:Int)(h0:0<=d)(h1:d<3):∃c,iX ([102,98,105]:Tx) d=.ok [c]/\isTurn c:=by
 obtain⟨c,e,h⟩:=jk (x:=([102,98,105]:Tx)) (i:=d) h0 (by simp;omega) ⋯;refine⟨c,e,?_⟩;have:=Hq h;simpa [isTurn] using this
theorem xJ(c:Int)(n:Nat)(hn:n<=1000):∃t,zx c (n:Int)=.ok t/\t.length=n/\Turns t:=by
 unfold zx DZ;by_cases h:c%7=3
 ·rw[Z1 (by simpa using h)];obtain⟨y,e,hy⟩:=rg (c/7%3) (HL _ ⋯) (Ho _ ⋯);rw[e,Gk,rW (by omega) (by omega)];refine⟨_,rfl,by simp,λx hx=>?_⟩;rw[List.eq_of_mem_replicate hx];exact hy
 ·rw[Z2 (by simpa using h)];obtain⟨ds,e,hl,hb⟩:=r6 (c/7) n 3 hn ⋯ ⋯;rw[e,Gk];have key:∃t:List Nat,bB ds (λ(a9:Int)=>iX ([102,98,105]:Tx) a9)=.ok (t.map λc=>[c])/\t.length=n/\Turns t:=by
   have:∀d∈ds,∃c:Nat,iX ([102,98,105]:Tx) d=.ok [c]/\isTurn c:=λd hd=>rg d (hb d hd).1 (hb d hd).2;have hf:∀d∈ds,iX ([102,98,105]:Tx) d=.ok ((λd=>[if d=0 then 102 else if d=1 then 98 else 105]) d):=λd hd=>by
    have h1:=hb d hd;have:d=0\/d=1\/d=2:=by omega
    rcases this with rfl|rfl|rfl<;>rfl
   rw[cA (by show ds.length<=100000;omega) hf];refine⟨ds.map λd=>if d=0 then 102 else if d=1 then 98 else 105,by simp,by simp[hl],λx hx=>?_⟩;obtain⟨d,_,rfl⟩:=GL.mp hx;unfold isTurn;split;·exact .inl rfl
   ·split;·exact .inr<|.inl rfl
    ·exact .inr<|.inr rfl
  obtain⟨t,e2,hl2,ht⟩:=key;rw[e2,Gk,wj (by rw[A9];omega),A9];exact⟨t,rfl,hl2,ht⟩
theorem Dk{c:Nat}(h:isTurn c):getD ([([102],1),([98],(-1)),([105],0)]:List (Tx×Int)) [c]=.ok (go c):=by rcases h with rfl|rfl|rfl<;>rfl
theorem uM{t:Cd}{c:Nat}(hc:isTurn c):xp t [c]=.ok (behind t c):=by
 unfold xp Eh;rw[Dk hc];rfl
theorem rh{t:Cd}(h:Card t):zB t=.ok (kA t):=by
 unfold zB El;have c2:∀a b:Nat,bS [a] [b]=.ok [a,b]:=λa b=>rfl;have c3:∀a b c:Nat,bS [a,b] [c]=.ok [a,b,c]:=λa b c=>rfl;have c4:∀a b c d:Nat,bS [a,b,c] [d]=.ok [a,b,c,d]:=λa b c d=>rfl;have hl:getD ([([83],[90]),([90],[83])]:List (Tx×Tx)) t.1=.ok (if t.1=[83]then [90]else [83]):=by rcases h.lay with e|e<;>rw[e]<;>rfl
 simp only[eE h (show(0:Int)<=0 by decide) ⋯,eE h (show(0:Int)<=3 by decide) ⋯,eE h (show(0:Int)<=2 by decide) ⋯,eE h (show(0:Int)<=1 by decide) ⋯,Gk,c2,c3,c4,hl];unfold kA;have:(4-t.2.2)%4=(0-t.2.2)%4:=by omega
 rw[this]
abbrev STT:=List Cd×List Int×List Int×List (Tx×Int)
theorem iJ{O:Type}(l:List O)(x:Tx):l.zip (aW x)=(l.zip x).map λp=>(p.1,[p.2]):=by
 unfold aW;rw[List.zip_map_right];rfl
def uN(c:Nat):Int:=if c=105 then 1 else 2
theorem zI(c:Nat):0<uN c:=by unfold uN;split<;>omega
def m7(cards:List Cd)(x:Tx):List (Tx×Int):=(cards.zip x).flatMap λp=>p.1.2.1.map λh=>([h],uN p.2)
theorem sP{cards:List Cd}{x:Tx}:∀p∈m7 cards x,0<p.2/\p.1.length<=100:=λp hp=>by
 obtain⟨q,_,hq⟩:=List.mem_flatMap.mp hp;obtain⟨h,_,rfl⟩:=GL.mp hq;exact⟨zI _,by simp⟩
theorem zJ{cards:List Cd}(hc:∀t∈cards,Card t)(x:Tx):(m7 cards x).length<=4*cards.length:=by
 unfold m7;rw[List.length_flatMap];have:∀(l:List (Cd×Nat)),(∀p∈l,Card p.1)->(l.map λp=>(p.1.2.1.map λh=>(([h]:Tx),uN p.2)).length).sum=4*l.length:=by
  intro l
  induction l with
  |nil=>intro _;rfl
  |cons p l ih=>
   intro h;rw[Hs,List.sum_cons,ih λq hq=>h q<|GB _ hq,GR,(h p<|GD ..).four];simp;omega
 rw[this _ λp hp=>hc p.1 (Iq hp).1];simp[Kj];omega
theorem xK(cards:List Cd)(x:Tx):xo cards x=cg uG (m7 cards x) []:=by
 unfold xo Ef m7;rw[iJ,eY,k4];have:(cg (λ(a:Cd×Nat)s=>CV (a.1,[a.2]) s) (cards.zip x) [])=cg (λ(a:Cd×Nat)s=>cg uG (a.1.2.1.map λh=>(([h]:Tx),uN a.2)) s) (cards.zip x) []:=by
  refine fQ _ _ λa _ s=>?_;unfold CV aW;rw[eY,eY];have:cg (λ(c:Nat)s=>CU (a.1,[a.2]) [c] s) a.1.2.1 s=cg (λ(c:Nat)s=>uG ([c],uN a.2) s) a.1.2.1 s:=by
   refine fQ _ _ λc _ s=>?_;unfold CU uG uN;by_cases z:a.2=105
   ·rw[Z1 (by simp[z]),Gk,Gk,Z1 z];show(gr s [c]<|cf s [c] 0+1).bind (λa0=>Gr a0)=_;cases gr s [c] (cf s [c] 0+1)<;>rfl
   ·rw[Z2 (by simp[z]),Gk,Gk,Z2 z];show(gr s [c]<|cf s [c] 0+2).bind (λa0=>Gr a0)=_;cases gr s [c] (cf s [c] 0+2)<;>rfl
  rw[this];cases cg (λ(c:Nat)s=>uG ([c],uN a.2) s) a.1.2.1 s<;>rfl
 rw[this];cases cg (λ(a:Cd×Nat)s=>cg uG (a.1.2.1.map λh=>(([h]:Tx),uN a.2)) s) (cards.zip x) []<;>rfl
theorem zK(cards:List Cd)(x:Tx)(s:Sp):cg BO (cards.zip<|aW x) s=cg uG ((m7 cards x).map λp=>(p.1, -p.2)) s:=by
 unfold m7;rw[iJ,eY,eY,k4];refine fQ _ _ λa _ s=>?_;unfold BO aW;rw[eY,eY];have:cg (λ(c:Nat)s=>CQ (a.1,[a.2]) [c] s) a.1.2.1 s=cg (λ(c:Nat)s=>uG ([c], -uN a.2) s) a.1.2.1 s:=by
  refine fQ _ _ λc _ s=>?_;unfold CQ uG uN;have:cf s [c] 0-2+(if decide (([a.2]:Tx)=[105])=true then(1:Int)else 0)=cf s [c] 0+ -(if a.2=105 then(1:Int)else 2):=by
   by_cases z:a.2=105;·rw[Z1 (by simp[z]),Z1 z];omega
   ·rw[Z2 (by simp[z]),Z2 z];omega
  show(gr s [c] (cf s [c] 0-2+(if decide (([a.2]:Tx)=[105])=true then(1:Int)else 0))).bind (λy=>Gr y)=_;rw[this];cases gr s [c] (cf s [c] 0+ -(if a.2=105 then(1:Int)else 2))<;>rfl
 rw[this];cases cg (λ(c:Nat)s=>uG ([c], -uN a.2) s) a.1.2.1 s<;>rfl
structure StOk(w:Nat)(s:STT):Prop where
 len:s.1.length=w
 card:∀t∈s.1,Card t
 now:s.2.1.length=w
 far:s.2.2.1.length=w
 nd:(ky s.2.2.2).Nodup
 nn:∀p∈s.2.2.2,0<=p.2
 sm:s.2.2.2.length<=100
def kC(cards:List Cd)(x:Tx):List Pl:=(cards.zip x).map λp=>qc p.1 p.2
theorem sQ{cards:List Cd}(hc:∀t∈cards,Card t){x:Tx}(hx:Turns x)(hl:cards.length<=1000):mH cards x=.ok (kC cards x):=by
 unfold mH Ec kC;rw[iJ,eY];obtain⟨s,e,hs⟩:=fj (f:=λ(a:Cd×Nat)s=>CS nv (a.1,[a.2]) s) (λpre s=>s=pre.map λp:Cd×Nat=>qc p.1 p.2) (cards.zip x) [] rfl (by
  intro pre a post s e hs;have ha:a∈cards.zip x:=by rw[e];simp
  have h1:=hc _ (Iq ha).1;have h2:=hx _ (Iq ha).2;have hlen:s.length<100000:=by
   rw[hs,GR];have:=congrArg ID e;simp[Kj]at this;omega
  refine⟨s++[qc a.1 a.2],?_,by rw[hs];simp⟩;unfold CS;dsimp only;rw[qd h2,Gk,Gk,Bm (Aj a.1 a.2),Gk,eE h1 h1.low h1.high,Gk,eE h1 (uI _).1 (uI _).2,Gk,Gk,eA hlen,Gk];rfl)
 rw[e,hs];rfl
theorem zL{l:List Int}(h:l≠[]):∃m,yN l=.ok m/\m∈l/\∀y∈l,y<=m:=by
 have key:∀(l:List Int)(z:Int),(∀a∈l,a<=l.foldl (λa b=>if b>a then b else a) z)/\z<=l.foldl (λa b=>if b>a then b else a) z/\(l.foldl (λa b=>if b>a then b else a) z=z\/l.foldl (λa b=>if b>a then b else a) z∈l):=by
  intro l
  induction l with
  |nil=>intro z;exact⟨λa h=>(nomatch h),O0 _,.inl rfl⟩
  |cons b l ih=>
   intro z;obtain⟨h1,h2,h3⟩:=ih (if b>z then b else z);simp only[JQ];have hb:b<=(if b>z then b else z)/\z<=(if b>z then b else z):=by split<;>omega
   refine⟨λa ha=>?_,by omega,?_⟩
   ·rcases GK.mp ha with rfl | ha;·omega
    ·exact h1 a ha
   ·rcases h3 with h3 | h3
    ·rw[h3];by_cases c:b>z;·rw[Z1 c];exact .inr<|GD ..
     ·rw[Z2 c];exact .inl rfl
    ·exact .inr<|GB _ h3
 cases l with
 |nil=>exact absurd rfl h
 |cons b l=>
  obtain⟨h1,h2,h3⟩:=key (b::l) b;refine⟨_,aQ (by simp),?_,h1⟩;rcases h3 with h3|h3
  ·show(b::l).foldl _ b∈_;rw[h3];exact GD ..
  ·exact h3
def NW(s:STT)(x:Tx):List Int:=(s.2.1.zip<|s.1.zip<|aW x).map λa=>a.1+tw a.2.1 (a.2.2.headD 0)
def CW(s:STT)(x:Tx):List Cd:=(s.1.zip<|aW x).map λa=>behind a.1<|a.2.headD 0
def FW(s:STT)(x:Tx):List Int:=(s.2.2.1.zip<|NW s x).map λa=>if en a.2>a.1 then en a.2 else a.1
theorem ic{O:Type}{l:List O}{x:Tx}(hx:Turns x){a:O×Tx}(h:a∈l.zip (aW x)):a.1∈l/\∃c,isTurn c/\a.2=[c]:=by
 have:=Iq h;obtain⟨c,hc,e⟩:=iA this.2;exact⟨this.1,c,hx c hc,e⟩
theorem eL(x:Tx):(aW x).length=x.length:=by unfold aW;simp
section
variable{w:Nat}{s:STT}{x:Tx}
theorem xM(h:StOk w s)(hl:x.length=w):(NW s x).length=w:=by unfold NW;simp[eL,h.len,h.now,hl]
theorem xN(h:StOk w s)(hl:x.length=w):(CW s x).length=w:=by unfold CW;simp[eL,h.len,hl]
theorem Bp(h:StOk w s)(hl:x.length=w):(FW s x).length=w:=by unfold FW;simp[xM h hl,h.far]
theorem sR(h:StOk w s):∀t∈CW s x,Card t:=λt ht=>by
 obtain⟨a,ha,rfl⟩:=GL.mp ht;exact(h.card _ (Iq ha).1).behind _
theorem Bq(h:StOk w s)(hw:w<=100)(hx:Turns x)(hl:x.length=w):bB (s.2.1.zip<|s.1.zip<|aW x) (λ(a:Int×Cd×Tx)=>(nv a.2.1 a.2.2).bind λa0=>Gr<|a.1+a0)=.ok (NW s x):=by
 unfold NW;refine cA (by simp[eL,h.len,h.now];show _<=100000;omega) λa ha=>?_;obtain⟨_,c,hc,e⟩:=ic hx (Iq ha).2;rw[e,qd hc];rfl
theorem Br(h:StOk w s)(hw:w<=100)(hx:Turns x)(hl:x.length=w):bB (s.2.1.zip<|s.1.zip<|aW x) (λ(a:Int×Cd×Tx)=>(pZ a.2.1 a.2.2).bind λa0=>Gr<|a.1+a0)=.ok (NW s x):=by
 unfold NW;refine cA (by simp[eL,h.len,h.now];show _<=100000;omega) λa ha=>?_;obtain⟨_,c,hc,e⟩:=ic hx (Iq ha).2;rw[e,ku hc];rfl
theorem Bs(h:StOk w s)(hw:w<=100)(hx:Turns x)(hl:x.length=w):bB (s.1.zip<|aW x) (λ(a:Cd×Tx)=>yg a.1 a.2)=.ok (CW s x):=by
 unfold CW;refine cA (by simp[eL,h.len];show _<=100000;omega) λa ha=>?_;obtain⟨_,c,hc,e⟩:=ic hx ha;rw[e,uH hc];rfl
theorem Bt(h:StOk w s)(hw:w<=100)(hx:Turns x)(hl:x.length=w):bB (s.1.zip<|aW x) (λ(a:Cd×Tx)=>xp a.1 a.2)=.ok (CW s x):=by
 unfold CW;refine cA (by simp[eL,h.len];show _<=100000;omega) λa ha=>?_;obtain⟨_,c,hc,e⟩:=ic hx ha;rw[e,uM hc];rfl
theorem Al(h:StOk w s)(hw:w<=100)(hl:x.length=w):bB (s.2.2.1.zip<|NW s x) (λ(a:Int×Int)=>Gr (if en a.2>a.1 then en a.2 else a.1))=.ok (FW s x):=cA (by simp[h.far];show _<=100000;omega) λa _=>rfl
theorem Dl(h:StOk w s)(hw:w<=100)(hx:Turns x)(hl:x.length=w):bB ((CW s x).zip (aW x)) (λ(a:Cd×Tx)=>yj a.1 a.2)=.ok (kC (CW s x) x):=by
 have:kC (CW s x) x=((CW s x).zip (aW x)).map λa=>qc a.1 (a.2.headD 0):=by
  unfold kC;rw[iJ,HP];rfl
 rw[this];refine cA (by simp[eL,xN h hl];show _<=100000;omega) λa ha=>?_;obtain⟨h1,c,hc,e⟩:=ic hx ha;rw[e,zG (sR h _ h1) hc];rfl
theorem Bu(h:StOk w s)(hw:w<=100)(hl:x.length<=1000):(((tV x).bind λa1=>Gr<|!decide (a1=(s.1.length:Int))).bind λa2=>if a2 then Gr true else((iO (aW x) (λ(a0:Tx)=>((Cf a0 ([102,98,105]:Tx)).bind λc=>Gr<|!c).bind λa3=>if a3 then Gr (some a0)else Gr none)).bind λa4=>Gr (a4.length:Int)).bind λa5=>Gr<|decide<|(0:Int)<a5)=Gr (!qe x w):=by
 rw[om (by omega),Gk,Gk,h.len];unfold qe;by_cases z:x.length=w
 ·rw[Z2 (by simp[z]),decide_eq_true z,Pf];rw[lL (g:=λt=>if ib (t.headD 0)=true then none else some t) (by rw[eL];omega) (λt ht=>by
   obtain⟨c,hc,rfl⟩:=iA ht;show((Gr (([102,98,105]:Tx).contains c)).bind λc=>Gr (!c)).bind _=_;rw[iP,Gk,Gk];show(if(!ib c)=true then Gr (some [c])else Gr none)=Gr (if ib c=true then none else some [c]);cases ib c<;>rfl),Gk,Gk]
  congr 1;rw[HZ,decide_eq_true_iff,K0,List.all_eq_false];constructor
  ·intro hp;have hne:((aW x).filterMap λt=>if ib (t.headD 0)=true then none else some t)≠[]:=λq=>by rw[q]at hp;exact absurd hp ⋯
   obtain⟨t,ht⟩:=List.exists_mem_of_ne_nil _ hne;obtain⟨u,hu,e⟩:=Kk.mp ht;obtain⟨c,hc,rfl⟩:=iA hu;refine⟨c,hc,λq=>?_⟩;rw[Z1 (show ib ([c].headD 0)=true from q)]at e;cases e
  ·rintro ⟨c,hc,hn⟩;have:[c]∈((aW x).filterMap λt=>if ib (t.headD 0)=true then none else some t):=Kk.mpr ⟨[c],GL.mpr ⟨c,hc,rfl⟩,Z2 hn⟩;have:=Mn this;omega
 ·rw[Z1 (by simp[z];omega),decide_eq_false z,MH];rfl
theorem xO(hn:1<=(NW s x).length)(hw:(NW s x).length<=100)(most:Int):∃b,(((bB (NW s x)<|λ(a0:Int)=>Gr<|en a0).bind λa1=>yN a1).bind λa2=>Gr<|decide<|most<a2)=.ok b/\((bB (NW s x)<|λ(a3:Int)=>Gr<|decide<|most<en a3).bind λa4=>Gr<|a4.any id)=.ok b:=by
 have hl:(NW s x).length<=100000:=by omega
 rw[cA (g:=λa=>en a) hl<|λ_ _=>rfl,cA (g:=λa=>decide<|most<en a) hl<|λ_ _=>rfl,Gk,Gk];obtain⟨m,e,h1,h2⟩:=zL (l:=(NW s x).map λa=>en a) (λz=>by have:=congrArg ID z;simp at this;rw[this]at hn;simp at hn);rw[e,Gk];refine⟨_,rfl,?_⟩;congr 1;rw[HZ,decide_eq_true_iff,KZ];constructor
 ·rintro ⟨b,hb,hb2⟩;obtain⟨a,ha,rfl⟩:=GL.mp hb;have:=h2 _<|GL.mpr ⟨a,ha,rfl⟩;have:most<en a:=of_decide_eq_true hb2;omega
 ·intro hm;obtain⟨a,ha,e⟩:=GL.mp h1;exact⟨_,GL.mpr ⟨a,ha,rfl⟩,decide_eq_true (by rw[e];exact hm)⟩
theorem xP(h:StOk w s)(hw0:1<=w)(hw:w<=100)(hl:x.length=w):∃T R:Sp,xo s.1 x=.ok T/\cg BO (s.1.zip<|aW x) s.2.2.2=.ok R/\
    ((((bB (R.map (·.1))<|λ(a0:Tx)=>getD R a0).bind λa1=>xg a1).bind λa2=>Gr<|decide<|a2< (0:Int))=.ok true/\yi s.2.2.2 T=.err 6\/
     (((bB (R.map (·.1)) (λ(a0:Tx)=>getD R a0)).bind λa1=>xg a1).bind λa2=>Gr (decide (a2<(0:Int))))=.ok false/\yi s.2.2.2 T=.ok R/\(ky R).Nodup/\(∀p∈R,0<=p.2)/\R.length<=100):=by
  have hL:=zJ h.card x;rw[h.len]at hL;obtain⟨T,eT,t1,t2,t3,t4,_⟩:=r9 (m7 s.1 x) [] OB (by simp;omega);obtain⟨R,eR,r1,r2,r3,r4,r5⟩:=r9 ((m7 s.1 x).map λp=>(p.1, -p.2)) s.2.2.2 h.nd (by have:=h.sm;simp;omega);have kyn:ky ((m7 s.1 x).map λp=>(p.1, -p.2))=ky (m7 s.1 x):=by unfold ky;rw[HP];rfl
  have tz:∀p∈T,p.2=jB (m7 s.1 x) p.1:=λp hp=>by
    have:=fZ t1 hp;rw[t2]at this;have g0:cf ([]:Sp) p.1 0=0:=rfl;omega
  have tk:∀k,k∈ky T↔k∈ky (m7 s.1 x):=λk=>by rw[t3];simp[ky]
  have klen:∀k∈ky (m7 s.1 x),k.length<=100:=λk hk=>by
    obtain⟨p,hp,rfl⟩:=GL.mp hk;exact(sP p hp).2
  have tp:∀p∈T,0<p.2/\p.1.length<=100:=λp hp=>by
    have hk:p.1∈ky (m7 s.1 x):=(tk _).mp (GL.mpr ⟨p,hp,rfl⟩);exact⟨by rw[tz p hp];exact xD (λq hq=>(sP q hq).1) hk,klen _ hk⟩
  have rz:∀k,cf R k 0=cf s.2.2.2 k 0-jB (m7 s.1 x) k:=λk=>by rw[r2,xE];omega
  have vs:bB (R.map (·.1)) (λ(a0:Tx)=>getD R a0)=.ok (R.map (·.2)):=by
    have e1:bB (R.map (·.1)) (λ(a0:Tx)=>getD R a0)=.ok ((R.map (·.1)).map λk=>cf R k 0):=cA (by have:=h.sm;simp at r4 ⊢;show _<=100000;omega) λk hk=>by
      obtain⟨v,hv⟩:=look_mem.mp (show k∈ky R from hk);unfold getD cf;rw[hv];rfl
    rw[e1,HP];congr 1;exact Iz λp hp=>fZ r1 hp
  have hc:∃k,k∈ky (m7 s.1 x):=by
    obtain⟨t,ts,e1⟩:∃t ts,s.1=t::ts:=by
      cases q:s.1 with
      |nil=>have:=h.len;rw[q]at this;simp at this;omega
      |cons t ts=>exact⟨t,ts,rfl⟩
    obtain⟨c,cx,e2⟩:∃c cx,x=c::cx:=by
      cases q:x with
      |nil=>rw[q]at hl;simp at hl;omega
      |cons t ts=>exact⟨t,ts,rfl⟩
    have f4:=(h.card t (by rw[e1];simp)).four;obtain⟨a,b,c',d,e3⟩:=four f4;refine⟨[a],GL.mpr ⟨([a],uN c),?_,rfl⟩⟩;unfold m7;rw[e1,e2,List.zip_cons_cons,LX];refine IK _ ?_;rw[e3];simp
  have hRn:0<(R.map (·.2)).length:=by
    obtain⟨k,hk⟩:=hc;have:k∈ky R:=(r3 k).mpr (.inr (by rw[kyn];exact hk));unfold ky at this;have:=Mn this;simpa using this
  rw[xK,zK];refine⟨T,R,eT,eR,?_⟩;rw[vs,Gk,show xg (R.map (·.2))=.ok (uz (R.map (·.2)))from aQ hRn,Gk];have sm:=h.sm;unfold yi Eg;by_cases good:∀p∈T,p.2<=cf s.2.2.2 p.1 0
  · right;obtain⟨D,eD,d1,d2⟩:=qb T s.2.2.2 t1 h.nd (by omega) tp good;have inS:∀k∈ky (m7 s.1 x),jB (m7 s.1 x) k<=cf s.2.2.2 k 0/\k∈ky s.2.2.2:=λk hk=>by
      obtain⟨p,hp,rfl⟩:=GL.mp<|(tk k).mpr hk;have g1:=good p hp;have g2:=(tp p hp).1;refine⟨by rw[<-tz p hp];exact g1,HX λz=>?_⟩;rw[gz z]at g1;omega
    have kR:ky R=ky s.2.2.2:=r5 λp hp=>by
      obtain⟨q,hq,rfl⟩:=GL.mp hp;exact(inS q.1<|GL.mpr ⟨q,hq,rfl⟩).2
    have eq:D=R:=xB (by rw[d1];exact h.nd) (d1.trans kR.symm) λk=>by
      rw[d2,rz];have:cf T k 0=jB (m7 s.1 x) k:=by rw[t2];show 0+_=_;omega
      rw[this]
    have nn:∀p∈R,0<=p.2:=λp hp=>by
      have g1:=fZ r1 hp;rw[rz]at g1;have kp:p.1∈ky s.2.2.2:=by rw[<-kR];exact GL.mpr ⟨p,hp,rfl⟩
      obtain⟨q,hq,eq⟩:=GL.mp kp;have g2:=fZ h.nd hq;have g3:=h.nn q hq;have eq:q.1=p.1:=eq;rw[eq]at g2;by_cases z:p.1∈ky (m7 s.1 x)
      · have:=(inS _ z).1;omega
      · rw[xF z]at g1;omega
    have lR:R.length=s.2.2.2.length:=by
      have:=congrArg ID kR;unfold ky at this;simpa using this
    refine⟨?_,by rw[eD,Gk,eq],by rw[kR];exact h.nd,nn,by omega⟩;congr 1;rw[decide_eq_false_iff_not];obtain⟨p,hp,e⟩:=GL.mp<|pT hRn;have:=nn p hp;omega
  · left;have bad:∃p∈T,cf s.2.2.2 p.1 0<p.2:=by
      refine HX λz=>good λp hp=>?_;refine HX λy=>z ⟨p,hp,by omega⟩
    refine⟨?_,by rw[nE T s.2.2.2 t1 h.nd (by omega) tp bad];rfl⟩;obtain⟨p,hp,hlt⟩:=bad;congr 1;rw[decide_eq_true_iff];have hk:p.1∈ky (m7 s.1 x):=(tk _).mp (GL.mpr ⟨p,hp,rfl⟩);have:p.1∈ky R:=(r3 p.1).mpr (.inr (by rw[kyn];exact hk));obtain⟨q,hq,e⟩:=GL.mp this;have e:q.1=p.1:=e;have g1:=fZ r1 hq;rw[rz,e,<-tz p hp]at g1;have:=sD (GL.mpr ⟨q,hq,rfl⟩:q.2∈R.map (·.2));omega
end
abbrev Dm:Tx:=[114,111,119]
abbrev Dp:Tx:=[102,108,105,112]
def rowD(x:Tx):Dat:=.t [.s Dm,.s x]
def flipD(k:Int):Dat:=.t [.s Dp,.i k]
abbrev Dq:Tx:=[66,97,100,82,111,119]
abbrev xQ:Tx:=[84,111,111,84,105,103,104,116]
abbrev Dr:Tx:=[83,112,111,111,108,68,114,121]
def stg(s:STT)(d:Dat)(p:Option (List Pl)):eW:=(d,s.1,s.2.1,s.2.2.1,s.2.2.2,p)
theorem xR{w:Nat}(hw0:1<=w)(hw:w<=100){s:STT}(h:StOk w s){x:Tx}(hx:x.length<=1000)(most:Int)(d:Dat)(p:Option (List Pl)):
  (sG s x most=.ok (.inl Dq)/\sI (stg s d p) x most=.err 1)\/(sG s x most=.ok (.inl xQ)/\sI (stg s d p) x most=.err 5)\/(sG s x most=.ok (.inl Dr)/\sI (stg s d p) x most=.err 6)\/
  ∃s',sG s x most=.ok (.inr s')/\sI (stg s d p) x most=.ok (stg s' (rowD x)<|some<|kC s'.1 x)/\StOk w s'/\Turns x:=by
 unfold sG Eb sI Ek;rw[Bu h hw hx];have er:yh x ((stg s d p).2.1.length:Int)=.ok (qe x w):=by rw[show(stg s d p).2.1.length=w from h.len];exact uL (by omega) w
 rw[er,Gk,Gk,Gk];cases hr:qe x w with
 |false=>exact .inl ⟨rfl,rfl⟩
 |true=>
  obtain⟨hl,ht⟩:=rf hr;rw[show(!true)=false from rfl,Z2 ⋯,Z2 ⋯,Bq h hw ht hl,Gk];rw[show bB ((stg s d p).2.2.1.zip ((stg s d p).2.1.zip (aW x))) (λ(a7:Int×Cd×Tx)=>(pZ a7.2.1 a7.2.2).bind λa2=>Gr<|a7.1+a2)=Gr (NW s x)from Br h hw ht hl,Gk];have nl:=xM h hl;obtain⟨b,e1,e2⟩:=xO (s:=s) (x:=x) (by omega) (by omega) most;rw[e1,e2,Gk,Gk];cases b with
  |true=>exact .inr<|.inl ⟨rfl,rfl⟩
  |false=>
   rw[Z2 ⋯,Z2 ⋯];obtain⟨T,R,eT,eR,hTR⟩:=xP h hw0 hw hl;rw[eR,Gk,show xo (stg s d p).2.1 x=Gr T from eT,Gk,show(stg s d p).2.2.2.2.1=s.2.2.2 from rfl];rcases hTR with⟨g1,g2⟩|⟨g1,g2,g3,g4,g5⟩
   ·rw[g1,g2,Gk];exact .inr<|.inr<|.inl ⟨rfl,rfl⟩
   ·rw[g1,g2,Gk,Z2 ⋯,Al h hw hl,Gk,Bs h hw ht hl,Gk,Gk,Gk];refine .inr<|.inr<|.inr ⟨(CW s x,NW s x,FW s x,R),rfl,?_,⟨xN h hl,sR h,nl,Bp h hl,g3,g4,g5⟩,ht⟩;rw[show bB ((stg s d p).2.2.2.1.zip (NW s x)) (λ(a0:Int×Int)=>Gr (if en a0.2>a0.1 then en a0.2 else a0.1))=Gr (FW s x)from Al h hw hl,Gk,show bB ((stg s d p).2.1.zip (aW x)) (λ(a1:Cd×Tx)=>xp a1.1 a1.2)=Gr (CW s x)from Bt h hw ht hl,Gk,Dl h hw ht hl,Gk];rfl
def Nu(i:Int):Prop:=(-100<=i/\i<100)\/i=100000000000000000000
theorem uO:∀n:Nat,n<200->(gR<|(n:Int)-100).length<=30/\((n:Int)-100).natAbs.log2<1920:=by decide +kernel
theorem zM:(gR 100000000000000000000).length<=30/\(100000000000000000000:Int).natAbs.log2<1920:=by decide +kernel
theorem Nu.num{i:Int}(h:Nu i):(gR i).length<=30/\i.natAbs.log2<1920:=by
 rcases h with⟨h0,h1⟩|rfl
 ·have:=uO (i+100).toNat (by omega);rw[show(((i+100).toNat:Nat):Int)-100=i by omega]at this;exact this
 ·exact zM
def kD(s:STT)(k:Int):STT:=(s.1.set k.toNat<|kA<|s.1[k.toNat]?.getD ([],[],0),s.2.1,s.2.2.1,s.2.2.2)
theorem qg{w:Nat}{s:STT}(h:StOk w s)(k:Int)(h0:0<=k)(h1:k<w):StOk w (kD s k)/\∃t,Card t/\gS s.1 k=.ok t/\mn s.1 k (kA t)=.ok (kD s k).1:=by
 have hk:k<s.1.length:=by rw[h.len];exact h1
 obtain⟨t,e1,e2⟩:=fg h0 hk;have hc:=h.card t<|Hq e2;refine⟨⟨by unfold kD;simp[h.len],λu hu=>?_,h.now,h.far,h.nd,h.nn,h.sm⟩,t,hc,e1,?_⟩
 ·unfold kD at hu;rcases List.mem_or_eq_of_mem_set hu with z|z
  ·exact h.card u z
  ·rw[z,e2,JF];exact hc.flip
 ·rw[yW h0 hk];unfold kD;rw[e2,JF]
theorem xS{w:Nat}{s:STT}(h:StOk w s){k:Int}(n:Nu k)(hk:k<0\/(w:Int)<=k):xr s.1 k=.err 7:=by
 have hn:=n.num;unfold xr D0;have:(if decide (k<0)=true then Gr true else Gr (decide<|(s.1.length:Int)<=k))=Gr true:=by
  by_cases z:k<0;·rw[Z1 (by simpa using z)]
  ·rw[Z2 (by simpa using z),h.len,decide_eq_true (by omega)]
 rw[this,Gk,Z1 rfl,bg (by simp),Gk,show jS k=.ok (gR k)from aQ hn.2,Gk,bg (by simp;omega),Gk,Gk,show jT _=Gr _ from aQ (by unfold cap;simp;omega),Gk]
theorem xT{w:Nat}{s:STT}(h:StOk w s){k:Int}(h0:0<=k)(h1:k<w):xr s.1 k=.ok ():=by
 unfold xr D0;rw[Z2 (by simp;omega),Gk,Z2 (by rw[h.len];simp;omega)]
theorem zN{w:Nat}{s:STT}(h:StOk w s){k:Int}(n:Nu k)(d:Dat)(p:Option (List Pl)):((k<0\/(w:Int)<=k)/\va (stg s d p) k=.err 7)\/((0<=k/\k<w)/\va (stg s d p) k=.ok (stg (kD s k) (flipD k) none)):=by
 unfold va Em;rw[show(stg s d p).2.1=s.1 from rfl];by_cases z:k<0\/(w:Int)<=k;·left;exact⟨z,by rw[xS h n z];rfl⟩
 ·right;have hk:0<=k/\k<w:=by omega
  refine⟨hk,?_⟩;obtain⟨_,t,hc,e1,e2⟩:=qg h k hk.1 hk.2;rw[xT h hk.1 hk.2,Gk,e1,Gk,rh hc,Gk,e2,Gk];rfl
abbrev EN:=STT×Dat
abbrev Ds:Tx:=[117,110,100,111]
abbrev Dt:Tx:=[114,101,100,111]
abbrev uP:Tx:=[114,101,102,117,115,101,100]
abbrev qh:Tx:=[116,111,108,100]
def beginD:Dat:=.t [.s [98,101,103,105,110],.i 0]
def sS:Dat:=.t [.s Ds,.i 0]
def sT:Dat:=.t [.s Dt,.i 0]
def EL(p:Pl):Dat:=.t [.s p.1,.s p.2.1,.s p.2.2]
def zO(l:List Pl):Dat:=.l<|l.map EL
def gM(d:Dat):Dat:=.t [.s qh,d]
def ig(n:Tx):Dat:=.t [.s uP,.l [.s n]]
abbrev sU:Tx:=[78,111,116,104,105,110,103,76,101,102,116]
abbrev Du:Tx:=[78,111,84,97,98,108,101,116]
def Dv:Dat->Option Tx
 | .t [.s t,.s x]=>if t=Dm then some x else none
 |_=>none
def Dw(e:EN):Option (List Pl):=(Dv e.2).map (kC e.1.1)
def sgOf(e:EN):eW:=stg e.1 e.2<|Dw e
structure IsE(w:Nat)(e:EN):Prop where
 st:StOk w e.1
 de:(∃x,e.2=rowD x/\Turns x/\x.length<=1000)\/∃k,e.2=flipD k/\Nu k
structure Sim(w:Nat)(most:Int)(n:Nat)(L:Z02)(st und:List EN):Prop where
 ex:∃s0 tl,st=(s0,beginD)::tl/\StOk w s0/\(∀e∈tl,IsE w e)/\L=(most,stg s0 .n none,tl.map sgOf,und.map sgOf)/\tl.length+und.length<=n
 un:∀e∈und,IsE w e
theorem IsE.le{w:Nat}{e:EN}(h:IsE w e):e.2.le 20:=by
 rcases h.de with⟨x,e1,_⟩|⟨k,e1,_⟩
 ·rw[e1];unfold rowD;simp[Ni]
 ·rw[e1];unfold flipD;simp[Ni]
theorem kE:∀(n:Nat)(d:Dat),d.le n->d.le (n+1)
 |0,d,h=>by
  cases d with
  |t xs=>exact h.elim
  |l xs=>exact h.elim
  |_=>trivial
 |n+1,d,h=>by
  cases d with
  |t xs=>exact λx hx=>kE n x<|h x hx
  |l xs=>exact λx hx=>kE n x<|h x hx
  |_=>trivial
theorem oE{d:Dat}(h:d.le 20):(gM d).le 24:=by
 have h1:=kE 22 d<|kE 21 d<|kE 20 d h;unfold gM;show ∀x∈[HM qh,d],Ni 23 x;intro x hx;rcases GK.mp hx with rfl|hx
 ·trivial
 ·rw[IJ.mp hx];exact h1
theorem Bv(l:List Pl):(zO l).le 20:=by
 unfold zO;show ∀x∈l.map EL,Ni 19 x;intro x hx;obtain⟨p,_,rfl⟩:=GL.mp hx;unfold EL;simp[Ni]
theorem nG{O:Type}(a:O)(l:List O):∃b,gS (a::l) (-(1:Int))=.ok b/\(a::l)[l.length]? =some b/\(l=[]->b=a)/\(l≠[]->l[l.length-1]? =some b):=by
 have hb:(a::l)[l.length]? =some (a::l)[l.length]:=Hj (by simp);refine⟨_,?_,hb,λz=>by subst z;rfl,λz=>?_⟩
 ·unfold gS tU;have:ixN (a::l).length (-(1:Int))=some l.length:=by
   unfold ixN;rw[Z2 ⋯,Z1 (by simp;omega)];congr 1;simp;omega
  rw[this];show fR ((a::l)[l.length]?)=_;rw[hb];rfl
 ·cases l with
  |nil=>exact absurd rfl z
  |cons c l=>simp
theorem jC{w:Nat}{most:Int}{n:Nat}{L:Z02}{st und:List EN}(S:Sim w most n L st und):∃s d d' p,gS st (-(1:Int))=.ok (s,d')/\fT L=.ok (stg s d p)/\StOk w s:=by
 obtain⟨s0,tl,rfl,h0,h1,rfl,_⟩:=S.ex;obtain⟨b,e1,e2,e3,e4⟩:=nG (s0,beginD) tl;unfold fT CT;cases tl with
 |nil=>
  have:b=(s0,beginD):=e3 rfl;subst this;exact⟨s0,.n,beginD,none,e1,rfl,h0⟩
 |cons e tl=>
  have hb:=e4 (by simp);have he:=h1 b<|Hq hb;refine⟨b.1,b.2,b.2,Dw b,e1,?_,he.st⟩;rw[Z1 (by rfl)];obtain⟨c,f1,f2,_,_⟩:=nG (sgOf e)<|tl.map sgOf;show gS (sgOf e::tl.map sgOf) (-(1:Int))=_;rw[f1];have:(sgOf e::tl.map sgOf)[(tl.map sgOf).length]? =some (sgOf b):=by
   rw[<-Hs,Hd,GR];have:(e::tl)[tl.length]? =some b:=by simpa using hb
   rw[this];rfl
  rw[this]at f2;cases f2;rfl
theorem qi{L:Z02}{g:eW}(h:L.2.2.1.length<=1000):oA L [g]=.ok ((L.1,L.2.1,L.2.2.1++[g],[]),()):=by
 unfold oA CY;rw[Z1 (show(![g].isEmpty)=true from rfl),show mF L.2.2.1 [g]=.ok (L.2.2.1++[g])from aQ (by show _<=100000;simp;omega),Gk,Gk]
theorem iK(n:Tx):(ig n).le 24:=by unfold ig;simp[Ni]
theorem Sim.app{w:Nat}{most:Int}{n:Nat}{L:Z02}{st und:List EN}(S:Sim w most n L st und){e:EN}(h:IsE w e):Sim w most (n+1) (L.1,L.2.1,L.2.2.1++[sgOf e],[]) (st++[e]) []:=by
 obtain⟨s0,tl,rfl,h0,h1,rfl,h2⟩:=S.ex;refine⟨⟨s0,tl++[e],rfl,h0,λx hx=>?_,by simp,by simp;omega⟩,λ_ z=>(nomatch z)⟩;rcases Io.mp hx with z|z;·exact h1 x z
 ·rw[IJ.mp z];exact h
theorem Sim.head0{w:Nat}{most:Int}{n:Nat}{L:Z02}{st und:List EN}(S:Sim w most n L st und)(r:List EN):(st++r)[0]? =st[0]? :=by
 obtain⟨s0,tl,rfl,_⟩:=S.ex;rfl
theorem Sim.up{w:Nat}{most:Int}{n:Nat}{L:Z02}{st und:List EN}(S:Sim w most n L st und):Sim w most (n+1) L st und:=by
 obtain⟨s0,tl,a,b,c,d,e⟩:=S.ex;exact⟨⟨s0,tl,a,b,c,d,by omega⟩,S.un⟩
theorem Sim.len{w:Nat}{most:Int}{n:Nat}{L:Z02}{st und:List EN}(S:Sim w most n L st und):L.1=most/\L.2.2.1.length<=n/\L.2.2.2.length<=n/\st.length<=n+1/\und.length<=n:=by
 obtain⟨s0,tl,rfl,b,c,rfl,e⟩:=S.ex;simp;omega
abbrev oF(w:Nat)(most:Int)(n:Nat)(L:Z02)(st und:List EN)(d:Dat):Prop:=∃L' st' und' r,ny st und d most=.ok ((st',und'),r)/\nz L d=.ok (L',r)/\Sim w most (n+1) L' st' und'/\r.le 24/\st'[0]? =st[0]?
section
variable{w:Nat}{most:Int}{n:Nat}{L:Z02}{st und:List EN}
theorem zP(hw0:1<=w)(hw:w<=100)(hn:n<=900)(S:Sim w most n L st und){x:Tx}(hx:x.length<=1000):oF w most n L st und (rowD x):=by
 obtain⟨s,d,d',p,e1,e2,hs⟩:=jC S;obtain⟨l1,l2,l3,l4,l5⟩:=S.len;have hdo:ny st und (rowD x) most=(sG s x most).bind λa0=>if(a0).isLeft then((((fR (a0).getLeft?).bind λa3=>Gr [a3]).bind λa4=>Gr ((uP:Tx),a4)).bind λa5=>Gr<|(λ(z:Tx×(List Tx))=>Je [HM z.1,KO<|z.2.map λ(z:Tx)=>HM z]) a5).bind λa6=>Gr ((st,und),a6)else(((fR (a0).getRight?).bind λa7=>Gr (a7,rowD x)).bind λa8=>eG st a8).bind λa9=>(Gr ([]:List EN)).bind λb0=>(((((fR (a0).getRight?).bind λb1=>Gr b1.1).bind λb2=>((Gr<|HM x).bind λb3=>fR<|oK b3).bind λb4=>mH b2 b4).bind λb5=>Gr ((qh:Tx),b5)).bind λb6=>Gr<|(λ(z:Tx×(List Pl))=>Je [HM z.1,KO<|z.2.map λ(z:Pl)=>Je [HM z.1,HM z.2.1,HM z.2.2]]) b6).bind λb7=>Gr ((a9,b0),b7):=by
  unfold ny Ah;rw[e1,Gk,Gk];rfl
 have htr:nz L (rowD x)=(LF<|(xq L x).bind λr=>Gr (r.1,zO r.2)).bind λr5=>match r5 with| .inr j7=>Gr (L,mr uP j7)| .inl y6=>Gr (y6.1,gM y6.2):=by
  unfold nz Ai;rfl
 have hwv:xq L x=(sI (stg s d p) x most).bind λy4=>(oA L [y4]).bind λy9=>(fR y4.2.2.2.2.2).bind λb8=>Gr (y9.1,b8):=by
  unfold xq CZ;rw[e2,Gk,l1]
 unfold oF;rw[hdo,htr,hwv];rcases xR hw0 hw hs hx most d p with⟨a1,a2⟩|⟨a1,a2⟩|⟨a1,a2⟩|⟨s',a1,a2,hs',ht⟩
 ·rw[a1,a2];exact⟨L,st,und,ig Dq,rfl,rfl,S.up,iK _,rfl⟩
 ·rw[a1,a2];exact⟨L,st,und,ig xQ,rfl,rfl,S.up,iK _,rfl⟩
 ·rw[a1,a2];exact⟨L,st,und,ig Dr,rfl,rfl,S.up,iK _,rfl⟩
 ·rw[a1,a2];have hE:IsE w (s',rowD x):=⟨hs',.inl ⟨x,rfl,ht,hx⟩⟩
  refine⟨_,st++[(s',rowD x)],[],gM<|zO<|kC s'.1 x,?_,?_,S.app hE,?_,S.head0 _⟩
  ·show(eG st (s',rowD x)).bind _=_;rw[eA (by omega),Gk,Gk];show((((mH s'.1 x).bind _).bind _).bind _)=_;rw[sQ hs'.card ht (by rw[hs'.len];omega)];rfl
  ·rw[Gk,qi (by omega)];rfl
  ·exact oE<|Bv _
theorem xU(hn:n<=900)(S:Sim w most n L st und){k:Int}(hk:Nu k):oF w most n L st und (flipD k):=by
 obtain⟨s,d,d',p,e1,e2,hs⟩:=jC S;obtain⟨l1,l2,l3,l4,l5⟩:=S.len;have hdo:ny st und (flipD k) most=((Gr<|decide<|k<(0:Int)).bind λa0=>if a0 then Gr true else Gr (decide<|(s.1.length:Int)<=k)).bind λa1=>if a1 then Gr ((st,und),ig Du)else(((gS s.1 k).bind λa2=>xm a2).bind λa3=>mn s.1 k a3).bind λa4=>(eG st ((a4,s.2.1,s.2.2.1,s.2.2.2),flipD k)).bind λa5=>(Gr ([]:List EN)).bind λa6=>Gr ((a5,a6),gM .n):=by
  unfold ny Ah;rw[e1,Gk,Gk];rfl
 have htr:nz L (flipD k)=(LF<|(xt L k).bind λr=>Gr (r.1,O8)).bind λr5=>match r5 with| .inr j7=>Gr (L,mr uP j7)| .inl y6=>Gr (y6.1,gM y6.2):=by
  unfold nz Ai;rfl
 have hfl:xt L k=((((va (stg s d p) k).bind λy2=>Gr [y2]).bind λy6=>Gr (y6,())).bind λa7=>oA L a7.1).bind λy5=>Gr (y5.1,()):=by
  unfold xt D4;rw[e2,Gk]
 unfold oF;rw[hdo,htr,hfl];rcases zN hs hk d p with⟨z,a⟩|⟨z,a⟩
 ·rw[a];have:((Gr<|decide<|k<(0:Int)).bind λa0=>if a0 then Gr true else Gr (decide<|(s.1.length:Int)<=k))=Gr true:=by
   rw[Gk,hs.len];by_cases y:k<0;·rw[Z1 (by simpa using y)]
   ·rw[Z2 (by simpa using y),decide_eq_true (by omega)]
  rw[this,Gk,Z1 rfl];exact⟨L,st,und,ig Du,rfl,rfl,S.up,iK _,rfl⟩
 ·rw[a];obtain⟨hf,t,hc,f1,f2⟩:=qg hs k z.1 z.2;have:((Gr<|decide<|k<(0:Int)).bind λa0=>if a0 then Gr true else Gr (decide<|(s.1.length:Int)<=k))=Gr false:=by
   rw[Gk,Z2 (by simp;omega),hs.len,decide_eq_false (by omega)]
  have hE:IsE w (kD s k,flipD k):=⟨hf,.inr ⟨k,rfl,hk⟩⟩
  refine⟨_,st++[(kD s k,flipD k)],[],gM .n,?_,?_,S.app hE,by unfold gM;simp[Ni],S.head0 _⟩
  ·rw[this,Gk,Z2 ⋯,f1,Gk,qf hc,Gk,f2,Gk,eA (by omega)];rfl
  ·rw[Gk,Gk,Gk,qi (by omega)];rfl
theorem iL{O:Type}(l:List O)(a:O):kI (l++[a])=.ok (a,l):=by
 unfold kI;have:(l++[a])[(l++[a]).length-1]? =some a:=by simp
 rw[this,List.dropLast_concat]
theorem sV{O:Type}{l:List O}(h:l≠[]):∃i a,l=i++[a]:=⟨l.dropLast,l.getLast h,(List.dropLast_concat_getLast h).symm⟩
theorem nH{O:Type}(l:List O)(a:O):gS (l++[a]) (-(1:Int))=.ok a:=by
 unfold gS tU;have:ixN (l++[a]).length (-(1:Int))=some l.length:=by
  unfold ixN;rw[Z2 ⋯,Z1 (by simp;omega)];congr 1;simp;omega
 rw[this];simp[fR]
theorem xV(hn:n<=900)(S:Sim w most n L st und):oF w most n L st und sS:=by
 obtain⟨s,d,d',p,e1,e2,hs⟩:=jC S;obtain⟨l1,l2,l3,l4,l5⟩:=S.len;have hdo:ny st und sS most=if(decide<|(st.length:Int)=(1:Int))then Gr ((st,und),ig sU)else((kI st).bind λb=>(eG und b.1).bind λc=>Gr (c,b.2)).bind λa0=>((((gS a0.1<|-(1:Int)).bind λa2=>Gr a2.2).bind λa3=>Gr ((qh:Tx),a3)).bind λa1=>Gr<|Je [HM a1.1,a1.2]).bind λa4=>Gr ((a0.2,a0.1),a4):=by
  unfold ny Ah;rw[e1,Gk,Gk];rfl
 have htr:nz L sS=(LF<|(yk L).bind λr=>Gr (r.1,r.2)).bind λr5=>match r5 with| .inr j7=>Gr (L,mr uP j7)| .inl y6=>Gr (y6.1,gM y6.2):=by
  unfold nz Ai;rfl
 unfold oF;rw[hdo,htr];unfold yk D5;obtain⟨s0,tl,rfl,h0,h1,rfl,h2⟩:=id S.ex;by_cases z:tl=[]
 ·subst z;rw[Z1 (by simp),Z1 (by rfl)];exact⟨_,_,und,ig sU,rfl,rfl,S.up,iK _,rfl⟩
 ·obtain⟨i,a,rfl⟩:=sV z;have ha:=h1 a (by simp);rw[Z2 (by simp;omega),Z2 (by simp)];simp only[GI,Jq]at h2;refine⟨(most,stg s0 .n none,i.map sgOf,und.map sgOf++[sgOf a]),(s0,beginD)::i,und++[a],gM a.2,?_,?_,⟨⟨s0,i,rfl,h0,λe he=>h1 e (by simp[he]),by simp,by simp;omega⟩,λe he=>?_⟩,oE ha.le,rfl⟩
  ·rw[show(s0,beginD)::(i++ [a])=((s0,beginD)::i)++ [a]from rfl,iL,Gk,eA (by omega),Gk,Gk,nH];rfl
  ·rw[show((most,stg s0 O8 none,(i++ [a]).map sgOf,und.map sgOf):Z02).2.2.1=i.map sgOf++ [sgOf a]from by simp,iL,Gk,Gk];show(LF<|(((eG (und.map sgOf)<|sgOf a).bind _).bind _).bind _).bind _=_;rw[eA (by simp;omega)];rfl
  ·rcases Io.mp he with y | y;·exact S.un e y
   ·rw[IJ.mp y];exact ha
theorem xW(hn:n<=900)(S:Sim w most n L st und):oF w most n L st und sT:=by
 obtain⟨s,d,d',p,e1,e2,hs⟩:=jC S;obtain⟨l1,l2,l3,l4,l5⟩:=S.len;have hdo:ny st und sT most=if und.isEmpty then Gr ((st,und),ig sU)else((kI und).bind λb=>(eG st b.1).bind λc=>Gr (c,b.2)).bind λa0=>((((gS a0.1<|-(1:Int)).bind λa2=>Gr a2.2).bind λa3=>Gr ((qh:Tx),a3)).bind λa1=>Gr<|Je [HM a1.1,a1.2]).bind λa4=>Gr ((a0.1,a0.2),a4):=by
  unfold ny Ah;rw[e1,Gk,Gk];rfl
 have htr:nz L sT=(LF<|(yl L).bind λr=>Gr (r.1,r.2)).bind λr5=>match r5 with| .inr j7=>Gr (L,mr uP j7)| .inl y6=>Gr (y6.1,gM y6.2):=by
  unfold nz Ai;rfl
 unfold oF;rw[hdo,htr];unfold yl D6;obtain⟨s0,tl,rfl,h0,h1,rfl,h2⟩:=id S.ex;by_cases z:und=[]
 ·subst z;rw[Z1 (by rfl),Z1 (by rfl)];exact⟨_,_,[],ig sU,rfl,rfl,S.up,iK _,rfl⟩
 ·obtain⟨i,a,rfl⟩:=sV z;have ha:=S.un a (by simp);rw[Z2 (by simp),Z2 (by simp)];simp only[GI,Jq]at h2 l5;refine⟨(most,stg s0 .n none,tl.map sgOf++[sgOf a],i.map sgOf),(s0,beginD)::(tl++[a]),i,gM a.2,?_,?_,⟨⟨s0,tl++[a],rfl,h0,λe he=>?_,by simp,by simp;omega⟩,λe he=>S.un e (by simp[he])⟩,oE ha.le,rfl⟩
  ·rw[iL,Gk,eA (by simp at l4 ⊢;omega),Gk,Gk,show((s0,beginD)::tl)++ [a]=((s0,beginD)::tl)++ [a]from rfl,nH];rfl
  ·rw[show((most,stg s0 O8 none,tl.map sgOf,(i++ [a]).map sgOf):Z02).2.2.2=i.map sgOf++ [sgOf a]from by simp,iL,Gk,Gk];show(LF<|(((eG (tl.map sgOf)<|sgOf a).bind _).bind _).bind _).bind _=_;rw[eA (by simp;omega)];rfl
  ·rcases Io.mp he with y | y;·exact h1 e y
   ·rw[IJ.mp y];exact ha
end
theorem rj{n:Nat}{i:Int}(h:i∈gc (n:Int)):0<=i/\i<n:=by
 unfold gc at h;obtain⟨k,hk,rfl⟩:=GL.mp h;have:=Lq.mp hk;omega
theorem sW{O γ:Type}{f:O->Unit->Res (Fl γ Unit)}(xs:List O)(h:∀a∈xs,f a ()=.ok (.nx ())):iN f xs ()=.ok (.nx ()):=by
 obtain⟨s,e,_⟩:=pE (f:=f) (λ_ _=>True) xs () trivial λpre a post s e _=>⟨(),h a (by rw[e];simp),trivial⟩
 exact e
section
variable{w:Nat}{most:Int}{n:Nat}{L:Z02}{st und:List EN}
theorem rk(hw:w<=100)(hn:n<=900)(S:Sim w most n L st und):zC st=.ok (st.filterMap Dw):=by
 obtain⟨_,_,_,l4,_⟩:=S.len;obtain⟨s0,tl,rfl,h0,h1,_,h2⟩:=id S.ex;unfold zC D7;refine lL (by omega) λe he=>?_;rcases GK.mp he with rfl|he
 ·rfl
 ·obtain⟨s,d⟩:=e;obtain⟨hs,hd⟩:=h1 _ he;rcases hd with⟨x,e1,ht,_⟩|⟨k,e1,_⟩
  ·have e1:d=rowD x:=e1;subst e1;show((mH s.1 x).bind λa0=>Gr<|some a0)=_;rw[sQ hs.card ht (by rw[hs.len];omega)];rfl
  ·have e1:d=flipD k:=e1;subst e1;rfl
theorem zQ(hn:n<=900)(S:Sim w most n L st und):yn L=.ok (st.filterMap Dw):=by
 obtain⟨_,l2,_,l4,_⟩:=S.len;obtain⟨s0,tl,rfl,h0,h1,rfl,h2⟩:=id S.ex;unfold yn D9;rw[lL (g:=λa:eW=>a.2.2.2.2.2) (by omega) (λa _=>by
  cases q:a.2.2.2.2.2 with
  |none=>rfl
  |some v=>rfl)]
 show Gr ((tl.map sgOf).filterMap _)=_;rw[List.filterMap_map];rfl
theorem qj(hn:n<=900)(S:Sim w most n L st und):pX L=.ok ((st.drop 1).map (·.2)):=by
 obtain⟨_,l2,_,l4,_⟩:=S.len;obtain⟨s0,tl,rfl,h0,h1,rfl,h2⟩:=id S.ex;unfold pX CN;rw[cA (g:=λa:eW=>a.1) (by show _<=100000;omega)<|λa _=>rfl];show Gr ((tl.map sgOf).map _)=_;rw[HP];rfl
theorem uQ(hw:w<=100)(hn:n<=900)(S:Sim w most n L st und):∃s d',gS st (-(1:Int))=.ok (s,d')/\yo L s (st.filterMap Dw) ((st.drop 1).map (·.2))=.ok true:=by
 obtain⟨s,d,d',p,e1,e2,hs⟩:=jC S;refine⟨s,d',e1,?_⟩;unfold yo Dg;have a1:ym L=.ok s.1:=by unfold ym D8;rw[e2];rfl
 rw[a1,Gk,lK rfl,Gk,Gk,zQ hn S,Gk,lK rfl,Gk,Z2 ⋯,Gk,Z2 ⋯,qj hn S,Gk,Gk];have hle:(KO (((st.drop 1).map (·.2)).map λ(z:Dat)=>z)).le 24:=by
  show ∀x∈((st.drop 1).map (·.2)).map λ(z:Dat)=>z,Ni 23 x;intro x hx;rw[List.map_id']at hx;obtain⟨e,he,rfl⟩:=GL.mp hx;obtain⟨s0,tl,rfl,h0,h1,rfl,h2⟩:=id S.ex;exact kE 22 _<|kE 21 _<|kE 20 _ (h1 e he).le
 rw[wu rfl hle,Gk,Gk,Z2 ⋯,lE (by rw[hs.len];show _<=100000;omega),Gk];rw[sW (f:=Df sJ sL L s) _ (λa ha=>by
  obtain⟨g0,g1⟩:=rj ha;rw[hs.len]at g1;unfold Df;obtain⟨v,ev,_⟩:=fg (xs:=s.2.1) g0 (by rw[hs.now];exact g1);obtain⟨u,eu,_⟩:=fg (xs:=s.2.2.1) g0 (by rw[hs.far];exact g1);have t1:sJ L a=.ok v:=by unfold sJ Dc;rw[e2];exact ev
  have t2:sL L a=.ok u:=by unfold sL Dd;rw[e2];exact eu
  rw[t1,t2,ev,eu,Gk,Gk,lK rfl,Gk,Gk,Z2 ⋯,Gk,Gk,lK rfl];rfl),Gk]
 show((iN (BP qZ L s) _ ()).bind _)=_;rw[sW (f:=BP qZ L s) _ (λa ha=>by
  unfold BP;have t1:qZ L a=.ok (cf s.2.2.2 a 0):=by unfold qZ De;rw[e2];rfl
  rw[t1,Gk,lK rfl];rfl)]
 rfl
end
def En(k:Tx):Prop:=∃c:Nat,k=[c]/\97<=c/\c<=122
def Gd(d:Sp):Prop:=(ky d).Nodup/\∀p∈d,0<=p.2/\p.2<=999999999/\En p.1
theorem zR{d:Sp}{k:Tx}{v:Int}{p:Tx×Int}(h:p∈fe d k v):p∈d\/p.2=v/\p.1=k:=by
 unfold fe at h;split at h
 ·obtain⟨q,hq,e⟩:=GL.mp h;by_cases z:q.1=k;·rw[Z1 z]at e;right;rw[<-e];exact⟨rfl,z⟩
  ·rw[Z2 z]at e;left;rw[<-e];exact hq
 ·rcases Io.mp h with z | z;·exact .inl z
  ·right;rw[IJ.mp z];exact⟨rfl,rfl⟩
theorem Gd.put{d:Sp}(h:Gd d){k:Tx}(hk:En k){v:Int}(hv:0<=v/\v<=999999999):Gd (fe d k v):=⟨xC h.1 k v,λp hp=>by
 rcases zR hp with z|z;·exact h.2 p z
 ·rw[z.1,z.2];exact⟨hv.1,hv.2,hk⟩⟩
def BQ(i:Nat)(s:Int×Sp):Prop:=s.1=i/\Gd s.2/\s.2.length<=2*i
theorem rl{d:Sp}{k:Tx}{a:Int}(h:d.length<100000):gr d k a=.ok (fe d k a):=aQ h
theorem uR{c:Int}{ds:List Int}(hd:ds.length=40)(hv:∀x∈ds,0<=x/\x<997){i:Nat}(hi:i<40){s:Int×Sp}(h:BQ i s){a:Tx}(ha:En a):(BK c ds a s).Ok (BQ<|i+1):=by
 obtain⟨h1,h2,h3⟩:=h;unfold BK;obtain⟨v,ev,hm⟩:=fg (xs:=ds) (i:=s.1) (by omega) (by rw[hd];omega);have hv0:0<=v/\v<=999999999:=by have:=hv v<|Hq hm;omega
 rw[ev,Gk,Gk,Gk];have p1:=kX s.2 a v;have p2:=kX (fe s.2 a v) a 999999999;refine j9 (OD (P:=λd:Sp=>Gd d/\d.length<=2*(i+1)) (j9 ?_) λd hd=>okR ⟨by show s.1+1=_;omega,hd.1,hd.2⟩);have key:∀b:Bool,(if b=true then((Gr v).bind λa1=>gr s.2 a a1).bind λa0=>(if(decide<|(c%3)=(0:Int))=true then(gr a0 a (999999999:Int)).bind λa2=>Gr a2 else Gr a0:Res cV).bind λa3=>Gr a3 else Gr s.2:Res cV).Ok λd:Sp=>Gd d/\d.length<=2*(i+1):=λb=>by
  refine ED (λ_=>?_) λ_=>okR ⟨h2,by omega⟩;rw[Gk,rl (by omega),Gk];refine j9 (wq (λ_=>?_) λ_=>okR (okR ⟨h2.put ha hv0,by omega⟩));rw[rl (by omega),Gk];exact okR (okR ⟨(h2.put ha hv0).put ha ⋯,by omega⟩)
 exact ED (λ_=>okR<|key _) λ_=>okR<|key _
theorem uS{c:Int}{ds:List Int}(hd:ds.length=40)(hv:∀x∈ds,0<=x/\x<997){t:Cd}(ht:Card t){i:Nat}(hi:i+4<=40){s:Int×Sp}(h:BQ i s):(BL c ds t s).Ok (BQ<|i+4):=by
 unfold BL;have hl:(aW t.2.1).length=4:=by unfold aW;rw[GR];exact ht.four
 obtain⟨s',e,hs⟩:=fj (f:=BK c ds) (λpre(s:Int×Sp)=>BQ (i+pre.length) s) (aW t.2.1) (s.1,s.2) h (by
  intro pre a post s e hs;have:pre.length<4:=by have:=congrArg ID e;rw[hl]at this;simp at this;omega
  have ha:En a:=by
   have:a∈aW t.2.1:=by rw[e];simp
   unfold aW at this;obtain⟨x,hx,rfl⟩:=GL.mp this;exact⟨x,rfl,ht.col x hx⟩
  obtain⟨s2,e2,h2⟩:=(uR (c:=c) hd hv (by omega) hs ha).ex;exact⟨s2,e2,by rw[GI];exact h2⟩)
 rw[e,Gk];rw[hl]at hs;exact okR hs
theorem uT{l:List Cd}(hl:l.length<=8)(hc:∀t∈l,Card t)(c:Int):(zq l c).Ok λd=>Gd d/\d.length<=100:=by
 unfold zq DT;obtain⟨ds,e,hd,hv⟩:=r6 (c/3) 40 997 ⋯ ⋯ ⋯;rw[show lX (c/3) 40 997=Gr ds from e,Gk];obtain⟨s,es,h1,h2,h3⟩:=fj (f:=BL c ds) (λpre(s:Int×Sp)=>BQ (4*pre.length) s) l (0,[]) ⟨rfl,⟨OB,λ_ z=>(nomatch z)⟩,GO _⟩ (by
  intro pre a post s e hs;have:pre.length<8:=by have:=congrArg ID e;simp at this;omega
  obtain⟨s2,e2,h2⟩:=(uS (c:=c) hd hv (hc a (by rw[e];simp)) (by omega) hs).ex;exact⟨s2,e2,by rw[GI];exact h2⟩)
 rw[es,Gk];obtain⟨v,ev,_⟩:=fg (xs:=ds) (i:=39) ⋯ (by rw[hd];decide);obtain⟨u,eu,hm⟩:=fg (xs:=ds) (i:=38) ⋯ (by rw[hd];decide);have hu:=hv u<|Hq hm;rw[ev,eu,Gk,Gk,Gk,Gk,Gk,Gk,Gk,Gk];refine j9 (ED (λ_=>?_) λ_=>okR (okR ⟨h2,by omega⟩));rw[pD (by omega) (by omega),Gk,rl (by omega),Gk];have p:=kX s.2 [113] (u*(if decide (0<u%3)=true then 1 else 0));exact okR (okR ⟨h2.put ⟨113,rfl,by decide,by decide⟩ (by split<;>omega),by omega⟩)
theorem qk{s:List Int}(hs:s.length<=63)(k n:Nat)(h:k+n<=200):(uZ s (k:Int) (n:Int)).Ok λl=>l.length=n/\∀t∈l,Card t:=by
 unfold uZ DQ;rw[jR (by omega),Gk];obtain⟨ys,e,hl,hp⟩:=wk (f:=λ(a1:Int)=>(iI s<|(k:Int)+a1).bind λy9=>ye y9) (P:=λ_ t=>Card t) (xs:=(JJ n).map λ(i:Nat)=>(i:Int)) (by simp;omega) (λx hx=>by
  obtain⟨i,hi,rfl⟩:=GL.mp hx;have:=Lq.mp hi;obtain⟨c,ec⟩:=nA hs (k+i) (by omega);rw[show(k:Int)+(i:Int)=((k+i:Nat):Int)from rfl,ec,Gk];exact zH c)
 rw[e];simp only[GR,NF]at hl;refine okR ⟨hl,λt ht=>?_⟩;obtain⟨i,hi⟩:=MC.mp ht;have:i<n:=by
  have:=(Gx.mp hi).1;omega
 exact hp i (i:Int) t (by simp[this]) hi
theorem xX{s:List Int}(hs:s.length<=63):(zr s).Ok λr=>1<=r.1.length/\r.1.length<=8/\(∀t∈r.1,Card t)/\Gd r.2.2/\r.2.2.length<=100/\0<=r.2.1/\r.2.1<=999999999:=by
 unfold zr DU;obtain⟨c0,e0⟩:=nA hs 0 ⋯;obtain⟨c7,e7⟩:=nA hs 7 ⋯;obtain⟨c8,e8⟩:=nA hs 8 ⋯;rw[show iI s 0=.ok c0 from e0,show iI s 7=.ok c7 from e7,show iI s 8=.ok c8 from e8,Gk,Gk,Gk];have z0:=HL c0 (show(8:Int)≠0 by decide);have z1:=Ho c0 (show(0:Int)<8 by decide);obtain⟨a,b,ea,eb,hab⟩:∃a b:Nat,(if(6:Int)<1+c0%8 then(6:Int)else 1+c0%8)=a/\(if(1+c0%8-(6:Int))>(0:Int)then(1+c0%8-(6:Int))else(0:Int))=b/\1<=a+b/\a+b<=8:=
  ⟨(if(6:Int)<1+c0%8 then(6:Int)else 1+c0%8).toNat,(if(1+c0%8-(6:Int))>(0:Int)then(1+c0%8-(6:Int))else(0:Int)).toNat,by split<;>omega,by split<;>omega,by split<;>split<;>omega⟩
 rw[ea,eb];refine j9<|OD (P:=λl:List Cd=>l.length=a+b/\∀t∈l,Card t) ?_ λl hl=>?_
 ·refine j9 ((show(uZ s (1:Int) (a:Int)).Ok _ from qk hs 1 a (by omega)).imp λx hx=>?_);refine j9 ((show(uZ s (60:Int) (b:Int)).Ok _ from qk hs 60 b (by omega)).imp λy hy=>?_);rw[yV (by omega)];refine okR ⟨by simp[hx.1,hy.1],λt ht=>?_⟩;rcases Io.mp ht with z|z
  ·exact hx.2 t z
  ·exact hy.2 t z
 ·rw[Gk];have:∃m,zp c7=.ok m/\0<=m/\m<=999999999:=by
   unfold zp DS;split;·exact⟨_,rfl,by omega,by omega⟩
   ·exact⟨_,rfl,by omega,by omega⟩
  obtain⟨m,em,hm⟩:=this;rw[em,Gk,Gk];exact j9 ((uT (by omega) hl.2 c8).imp λd hd=>okR ⟨by show 1<=l.length;omega,by show l.length<=8;omega,hl.2,hd.1,hd.2,hm⟩)
theorem zS{a:Nat}(h:a<10^42):a.log2<1920:=by
 by_cases z:a=0;·rw[z];decide
 ·rw[Nat.log2_lt z];exact GC h ⋯
theorem zT{n:Int}(h: -(10^41)<n)(h2:n<10^42):(gR n).length<=44:=by
 have key:∀m:Nat,m<10^42->(Nat.repr m).toList.length<=42:=λm hm=>by
  rw[Nat.toList_repr];exact(Nat.length_toDigits_le_iff ⋯ ⋯).mpr hm
 unfold gR;rw[GR];cases n with
 |ofNat m=>exact HB (key m (by have h2:(m:Int)<10^42:=h2;omega)) ⋯
 |negSucc m=>
  show("-"++Nat.repr (m+1)).toList.length<=44;rw[String.toList_append,GI];have:=key (m+1) (by have h: -(10^41)<Int.negSucc m:=h;omega);show 1+_<=44;omega
theorem zU{n:Int}(h: -(10^41)<n)(h2:n<10^42):jS n=.ok (gR n):=aQ (zS (by omega))
theorem zV(c:Int):∃k,zv c=.ok [k]:=by
 unfold zv DX;rw[bg ⋯,Gk];obtain⟨k,e,_⟩:=jk (x:=(([32,33,34,35,36,38,39,40,41,42,43,44,45,46,47,48,49,50,51,52,53,54,55,56,57,58,59,60,61,62,63,64,65,66,67,68,69,70,71,72,73,74,75,76,77,78,79,80,81,82,83,84,85,86,87,88,89,90,91,92,93,94,95,96]:Tx)++([97,98,99,100,101,102,103,104,105,106,107,108,109,110,111,112,113,114,115,116,117,118,119,120,121,122,123,124,125,126,10]:Tx))) (i:=c%95) (HL _ ⋯) (Int.lt_of_lt_of_le (Ho _ ⋯) ⋯) ⋯;exact⟨k,e⟩
theorem uU{a b:Tx}{m n:Nat}(ha:a.length<=m)(hb:b.length<=n)(h:m+n<=100000):(bS a b).Ok λy=>y.length<=m+n:=by
 rw[bg<|HB (OC ha hb) h];show(a++b).length<=m+n;rw[GI];exact OC ha hb
theorem Bw{x:Tx}(hl:x.length<=8)(c:Int):(zw x c).Ok λy=>y.length<=1000:=by
 unfold zw DY;obtain⟨k,ek⟩:=zV<|c/7;have hx:=HB hl (show 8<=100000 by decide);rw[om hx,Gk,Gk,jj (by omega),Gk,ek,Gk];have C:∀lo hi,(hR x lo hi).Ok λy=>y.length<=8:=λlo hi=>by
  rw[rX hx];exact HB (rY x lo hi) hl
 have hk:[k].length<=1:=GO _;have F:∀{a b:Tx}{m n:Nat},a.length<=m->b.length<=n->m+n<=1000->(bS a b).Ok λy=>y.length<=1000:=λha hb h=>(uU ha hb (HB h ⋯)).imp λy hy=>HB hy h;refine wq (λ_=>?_) λ_=>wq (λ_=>?_) λ_=>wq (λ_=>?_) λ_=>wq (λ_=>?_) λ_=>?_;·exact j9 ((j9 ((C _ _).imp λa ha=>uU ha hk ⋯)).imp λa ha=>j9 ((C _ _).imp λb hb=>F ha hb ⋯))
 ·exact j9 ((C _ _).imp λa ha=>j9 ((C _ _).imp λb hb=>F ha hb ⋯))
 ·exact j9 ((j9 ((C _ _).imp λa ha=>uU ha hk ⋯)).imp λa ha=>j9 ((C _ _).imp λb hb=>F ha hb ⋯))
 ·exact j9 ((j9 ((C _ _).imp λa ha=>j9 ((C _ _).imp λb hb=>uU ha hb ⋯))).imp λa ha=>j9 ((C _ _).imp λb hb=>F ha hb ⋯))
 ·exact j9 ((j9 ((C _ _).imp λa ha=>j9 ((C _ _).imp λb hb=>uU ha hb ⋯))).imp λa ha=>j9 ((j9 ((C _ _).imp λb hb=>uU hb ha ⋯)).imp λb hb=>j9 ((C _ _).imp λd hd=>F hb hd ⋯)))
theorem rm(c:Int){w:Nat}(hw:w<=8):(zy c (w:Int)).Ok λx=>x.length<=1000:=by
 unfold zy E3;refine wq (λ_=>?_) λ_=>wq (λ_=>?_) λ_=>?_
 ·rw[rX (by simp),Gk];have h:=rY ([102,98,105,98,102,98,105,102]:Tx) none<|some (w:Int);simp only[Hc,II]at h;exact Bw h _
 ·obtain⟨y,e,hy⟩:=rg (c/ 9% 3) (HL _ ⋯) (Ho _ ⋯);rw[e,Gk,rW (by omega) (by omega)];exact okR (by simp;omega)
 ·obtain⟨t,e,hl,_⟩:=xJ (c/ 9) w (by omega);rw[e];exact okR (by omega)
def Dx(d:Dat):Prop:=(∃x,d=rowD x/\x.length<=1000)\/(∃k,d=flipD k/\Nu k)\/d=sS\/d=sT
theorem zW(c:Int){w:Nat}(h0:1<=w)(hw:w<=8):(uE c (w:Int)).Ok Dx:=by
 unfold uE E6;refine wq (λ_=>?_) λ_=>wq (λ_=>?_) λ_=>wq (λ_=>?_) λ_=>?_;·exact j9<|j9<|(rm (c/7) hw).imp λx hx=>okR<|okR<|.inl ⟨x,rfl,hx⟩
 ·rw[jj (by omega),Gk];have b0:=HL (c/7) (show(w:Int)≠0 by omega);have b1:=Ho (c/7) (show(0:Int)<w by omega);refine j9 (OD (P:=Nu) (wq (λ_=>?_) λ_=>okR (.inl (by omega))) λk hk=>okR<|.inr<|.inl ⟨k,rfl,hk⟩);have z0:=HL (c/77) (show(3:Int)≠0 by decide);have z1:=Ho (c/77) (show(0:Int)<3 by decide);obtain⟨v,ev,hm⟩:=fg (xs:=[(w:Int),((0:Int)-(1:Int)),(100000000000000000000:Int)]) (i:=c/77%3) z0 (by simp;omega);rw[ev,Gk];have:=Hq hm;simp only[GK,HD,or_false]at this;refine okR ?_;rcases this with z|z|z
  ·exact .inl (by omega)
  ·exact .inl (by omega)
  ·exact .inr z
 ·exact okR<|.inr<|.inr<|.inr rfl
 ·exact okR<|.inr<|.inr<|.inl rfl
theorem zX{w:Nat}{most:Int}{n:Nat}{L:Z02}{st und:List EN}(hw0:1<=w)(hw:w<=8)(hn:n<=900)(S:Sim w most n L st und){d:Dat}(h:Dx d):oF w most n L st und d:=by
 rcases h with⟨x,rfl,hx⟩|⟨k,rfl,hk⟩|rfl|rfl;·exact zP hw0 (by omega) hn S hx
 ·exact xU hn S hk
 ·exact xV hn S
 ·exact xW hn S
theorem Bx{w:Nat}(h:w<=100):wJ [(0:Int)] (w:Int)=.ok (GS w 0):=by
 have:∀n:Nat,(GS n [(0:Int)]).flatten=GS n 0:=by
  intro n
  induction n with
  |zero=>rfl
  |succ n ih=>rw[Ig,Ij,ih,Ig];rfl
 rw[show wJ [(0:Int)] (w:Int)=.ok (GS (w:Int).toNat [(0:Int)]).flatten from aQ ⟨by omega,by omega,by show 1*_<=100000;omega⟩,this];rfl
def qo(dr:List Cd)(sp:Sp):STT:=(dr,GS dr.length 0,GS dr.length 0,sp)
theorem zY{dr:List Cd}(h:dr.length<=8)(most:Int)(sp:Sp):yf dr most sp=.ok (most,stg (qo dr sp) .n none,[],[]):=by
 unfold yf CM zt CL;rw[Bx (by omega)];rfl
abbrev xY:Tx:=[108,111,111,109,32]
abbrev By:Tx:=[115,112,111,111,108,32]
abbrev EM:Tx:=[116,97,98,108,101,116,32]
abbrev alph:List Nat:=[97,98,99,100,101,102,103,104,105,106,107,108,109,110,111,112,113,114,115,116,117,118,119,120,121,122]
def qp(m:Int):Tx:=xY++gR m
def Bz(k:Tx)(v:Int):Tx:=By++k++[32]++gR v
def vb(c:Cd):Tx:=EM++c.1++[32]++c.2.1++[32]++gR c.2.2
def uV:Dat->Tx×Dat
 | .t [.s w,y]=>(w,y)
 |_=>([],.n)
def Dy:Dat->Tx
 | .s x=>x
 | .i k=>gR k
 |_=>[]
def BR(d:Dat):Tx:=(uV d).1++[32]++Dy (uV d).2
def sX(sp:Sp):List Nat:=alph.filter λc=>(look sp [c]).isSome
def yp(sp:Sp)(k:Tx):Int:=(look sp k).getD 0
def oG(sp:Sp):List Tx:=(sX sp).map λc=>Bz [c]<|yp sp [c]
def uW(dr:List Cd)(most:Int)(sp:Sp)(done:List Dat):List Tx:=([qp most]++oG sp)++dr.map vb++done.map BR
def DL(d:Dat):Prop:=(∃x,d=rowD x/\x.length<=1000)\/∃k,d=flipD k/\Nu k
def Sm(v:Int):Prop:=0<=v/\v<=999999999
theorem Sm.num{v:Int}(h:Sm v):(gR v).length<=44:=zT (by have:=h.1;omega) (by have:=h.2;omega)
theorem Sm.fmt{v:Int}(h:Sm v):jS v=.ok (gR v):=zU (by have:=h.1;omega) (by have:=h.2;omega)
theorem Card.sm{t:Cd}(h:Card t):Sm t.2.2:=⟨h.low,by have:=h.high;omega⟩
theorem Card.ly{t:Cd}(h:Card t):t.1.length=1:=by rcases h.lay with z|z<;>rw[z]<;>rfl
theorem oH{d:Sp}{k:Tx}{v:Int}(h:look d k=some v):(k,v)∈d:=by
 unfold look at h;obtain⟨p,hp,rfl⟩:=Ir.mp h;have h1:=LK hp;have h2:=Od hp;have:p.1=k:=by simpa using h2
 rw[<-this];exact h1
theorem xZ{sp:Sp}(hg:Gd sp)(k:Tx):Sm (yp sp k):=by
 unfold yp;cases q:look sp k with
 |none=>exact⟨by decide,by decide⟩
 |some v=>have:=hg.2 _<|oH q;exact⟨this.1,this.2.1⟩
theorem DL.fm{d:Dat}(h:DL d):DF oK some d=some (uV d)/\(uV d).1.length<=4/\xi (uV d).2=.ok (Dy (uV d).2)/\(Dy (uV d).2).length<=1000/\jl d 0=.ok (.s (uV d).1)/\jl d 1=.ok (uV d).2:=by
 rcases h with⟨x,rfl,hx⟩|⟨k,rfl,hk⟩
 ·exact⟨rfl,by show 3<=4;decide,rfl,hx,rfl,rfl⟩
 ·have:=hk.num;exact⟨rfl,by show 4<=4;decide,aQ this.2,by show(gR k).length<=1000;omega,rfl,rfl⟩
theorem oI{ys:List Tx}{n:Nat}(h:∀y∈ys,y.length<=n):ys.flatten.length<=n*ys.length:=by
 induction ys with
 |nil=>simp
 |cons y r ih=>
  have h1:=h y<|GD ..;have h2:=ih λz hz=>h z<|GB _ hz;simp only[Ij,GI,Hc,Nat.mul_add,Nat.mul_one];omega
section
variable{dr:List Cd}{most:Int}{sp:Sp}{done:List Dat}
theorem sY(hm:Sm most)(hg:Gd sp)(hc:∀t∈dr,Card t)(hd:dr.length<=8)(hn:done.length<=60)(hl:∀d∈done,DL d):nh [10] (uW dr most sp done)=.ok (jr [10]<|uW dr most sp done):=by
 have l1:(qp most).length<=49:=by have:=hm.num;unfold qp;rw[GI];show 5+_<=49;omega
 have l2:(oG sp).length<=26:=by unfold oG sX;rw[GR];exact JX ..
 have l3:(oG sp).flatten.length<=52*(oG sp).length:=oI λy hy=>by
  unfold oG at hy;obtain⟨c,_,rfl⟩:=GL.mp hy;have:=(xZ hg [c]).num;unfold Bz;simp only[GI,Hc,II];omega
 have l4:(dr.map vb).flatten.length<=60*(dr.map vb).length:=oI λy hy=>by
  obtain⟨t,ht,rfl⟩:=GL.mp hy;have h1:=(hc t ht).sm.num;have h2:=(hc t ht).ly;have h3:=(hc t ht).four;unfold vb;simp only[GI,Hc,II];omega
 have l5:(done.map BR).flatten.length<=1005*(done.map BR).length:=oI λy hy=>by
  obtain⟨d,hd,rfl⟩:=GL.mp hy;obtain⟨_,h1,_,h2,_⟩:=(hl d hd).fm;unfold BR;simp only[GI,Hc,II];omega
 refine aQ ?_;unfold uW;simp only[List.flatten_append,Ij,List.flatten_nil,GI,Hc,II,GR]at l4 l5 ⊢;show _<=100000;omega
def fS(sp:Sp)(k:Tx):List Tx:=match look sp k with|some v=>[Bz k v]|none=>[]
theorem Dz(sp:Sp)(k:Tx):(fS sp k).length<=1:=by unfold fS;split<;>simp
theorem y0(sp:Sp):∀l:List Tx,(l.flatMap<|fS sp).length<=l.length
 | []=>GO _
 |k::r=>by
  rw[LX,GI,Hc];have:=Dz sp k;have:=y0 sp r;omega
theorem ya(sp:Sp):∀l:List Nat,(aW l).flatMap (fS sp)=(l.filter λc=>(look sp [c]).isSome).map λc=>Bz [c] (yp sp [c])
 | []=>rfl
 |c::r=>by
  have ih:=ya sp r;show fS sp [c]++(aW r).flatMap (fS sp)=_;rw[ih];unfold fS;cases q:look sp [c]with
  |none=>rw[List.filter_cons_of_neg (by rw[q];decide)];rfl
  |some v=>
   rw[List.filter_cons_of_pos (by rw[q];rfl),Hs];unfold yp;rw[q];rfl
theorem yb(hm:Sm most)(hg:Gd sp)(hc:∀t∈dr,Card t)(hd:dr.length<=8)(hn:done.length<=60)(hl:∀d∈done,DL d):pY dr most sp done=nh [10] (uW dr most sp done):=by
 unfold pY DW;have l1:=hm.num;rw[hm.fmt,Gk,bg (by show 5+_<=100000;omega),Gk,Gk];obtain⟨s1,e1,h1⟩:=fj (f:=BM sp) (λpre(s:List Tx)=>s=[qp most]++pre.flatMap (fS sp)) (aW alph) [qp most] rfl (by
  intro pre a post s e hs;subst hs;have hp:pre.length<26:=by have:=congrArg ID e;simp at this;unfold aW at this;simp at this;omega
  have hf:=y0 sp pre;have ha:a.length=1:=by
   have:a∈aW alph:=by rw[e];simp
   unfold aW at this;obtain⟨x,hx,rfl⟩:=GL.mp this;rfl
  unfold BM;rw[List.flatMap_append];cases q:look sp a with
  |none=>
   refine⟨_,rfl,?_⟩;simp[fS,q]
  |some v=>
   have hv:=hg.2 _<|oH q;have hv:Sm v:=⟨hv.1,hv.2.1⟩
   have h2:=hv.num;refine⟨_,?_,rfl⟩;rw[Z1 (show(some v:Option Int).isSome=true from rfl),bg (by show 6+_<=100000;omega),Gk,bg (by simp;omega),Gk,show getD sp a=.ok v from by unfold getD;rw[q];rfl,Gk,hv.fmt,Gk,bg (by simp;omega),Gk,eA (by rw[GI,Jq];omega),Gk,Gk];simp[fS,q,Bz])
 rw[show cg (BM sp) (aW ([97,98,99,100,101,102,103,104,105,106,107,108,109,110,111,112,113,114,115,116,117,118,119,120,121,122]:Tx)) [xY++gR most]=.ok s1 from e1,Gk,h1,ya];have l2:(oG sp).length<=26:=by unfold oG sX;rw[GR];exact JX ..
 show((cg BN dr<|[qp most]++oG sp).bind _)=_;obtain⟨s2,e2,h2⟩:=fj (f:=BN) (λpre(s:List Tx)=>s=([qp most]++oG sp)++pre.map vb) dr ([qp most]++oG sp) (by simp) (by
  intro pre a post s e hs;subst hs;have hp:pre.length<8:=by have:=congrArg ID e;simp at this;omega
  have ha:=hc a (by rw[e];simp);have h1:=ha.sm.num;have h2:=ha.ly;have h3:=ha.four;refine⟨_,?_,rfl⟩;unfold BN;rw[bg (by show 7+_<=100000;omega),Gk,bg (by simp;omega),Gk,bg (by simp;omega),Gk,bg (by simp;omega),Gk,ha.sm.fmt,Gk,bg (by simp;omega),Gk,eA (by simp;omega),Gk,Oe];simp[vb])
 rw[e2,Gk,h2];obtain⟨s3,e3,h3⟩:=fj (f:=CP) (λpre(s:List Tx)=>s=(([qp most]++oG sp)++dr.map vb)++pre.map BR) done (([qp most]++oG sp)++dr.map vb) (by simp) (by
  intro pre a post s e hs;subst hs;have hp:pre.length<60:=by have:=congrArg ID e;simp at this;omega
  obtain⟨_,h1,h2,h3,h4,h5⟩:=(hl a (by rw[e];simp)).fm;refine⟨_,?_,rfl⟩;unfold CP;rw[h4,Gk,show fR (oK (.s (uV a).1))=.ok (uV a).1 from rfl,Gk,bg (by simp;omega),Gk,h5,Gk,h2,Gk,bg (by simp;omega),Gk,eA (by simp;omega),Gk,Oe];simp[BR])
 rw[e3,Gk,h3];rfl
theorem DA(hg:Gd sp):lV sp=.ok ((sX sp).map λc=>[c]):=by
 have h1:∀q∈sp,q.1=[q.1.headD 0]/\q.1.headD 0∈alph:=λq hq=>by
  obtain⟨_,_,c,e,h2,h3⟩:=hg.2 q hq;rw[e];refine⟨rfl,?_⟩;show c∈alph;have:∀c:Nat,c<123->97<=c->c∈alph:=by decide
  exact this c (by omega) h2
 have nd:(sp.map λq=>q.1.headD 0).Nodup:=by
  have:=hg.1;unfold ky at this;have e:sp.map (·.1)=(sp.map λq=>q.1.headD 0).map λc=>[c]:=by
   rw[HP];exact Iz λq hq=>(h1 q hq).1
  rw[e]at this;exact Qf (λ{a b}h z=>h (by rw[z]))<|LV.mp this
 have hp:(sX sp).Perm (sp.map λq=>q.1.headD 0):=by
  rw[List.perm_ext_iff_of_nodup (by unfold sX;exact MP _ ⋯) nd];intro c;unfold sX;rw[Le,GL];constructor
  ·rintro ⟨_,h⟩;obtain⟨v,hv⟩:=Jx.mp h;exact⟨_,oH hv,rfl⟩
  ·rintro ⟨q,hq,rfl⟩;refine⟨(h1 q hq).2,?_⟩;rw[<-(h1 q hq).1,sO hg.1 hq];rfl
 have hl:sp.length<=26:=by
  have:=hp.length_eq;rw[GR]at this;rw[<-this];unfold sX;exact JX ..
 unfold lV;rw[aQ ⟨by omega,λq hq=>by rw[(h1 q hq).1];rfl⟩];have h3:((sX sp).map λ(c:Nat)=>(c:Int))=jM (sp.map λq=>((q.1.headD 0:Nat):Int)):=mX (by
  have:=hp.map λ(c:Nat)=>(c:Int)
  rw[HP]at this;exact this) (LV.mpr (by unfold sX;exact MP _ ⋯))
 rw[<-h3,HP];rfl
theorem uX{w:Nat}{n:Nat}{L:Z02}{st und:List EN}(S:Sim w most n L st und)(h0:st[0]? =some (qo dr sp,beginD))(hm:Sm most)(hg:Gd sp)(hc:∀t∈dr,Card t)(hd:dr.length<=8)(hn:n<=60):(∀d∈(st.drop 1).map (·.2),DL d)/\((st.drop 1).map (·.2)).length<=60/\ql L=nh [10] (uW dr most sp ((st.drop 1).map (·.2))):=by
 have hde:=qj (by omega) S;obtain⟨s0,tl,rfl,g0,g1,rfl,g2⟩:=S.ex;cases h0;have hD:∀d∈(((qo dr sp,beginD)::tl).drop 1).map (·.2),DL d:=λd hd=>by
  obtain⟨e,he,rfl⟩:=GL.mp hd;rcases (g1 e he).de with⟨x,a,_,b⟩|⟨k,a,b⟩
  ·exact .inl ⟨x,a,b⟩
  ·exact .inr ⟨k,a,b⟩
 have hL:((((qo dr sp,beginD)::tl).drop 1).map (·.2)).length<=60:=by simp;omega
 refine⟨hD,hL,?_⟩;unfold ql CO;have l1:=hm.num;rw[bg ⋯,Gk,hm.fmt,Gk,bg (by simp;omega),Gk,Gk,show jT (([]++xY)++gR most)=.ok (qp most)from aQ (by unfold cap;simp;omega),Gk,Gk];show(((lV sp).bind _).bind _).bind _=_;rw[DA hg,Gk];have l2:(sX sp).length<=26:=by unfold sX;exact JX ..
 rw[cA (g:=λk=>Bz k<|yp sp k) (by show _<=100000;simp;omega) (λa ha=>by
  obtain⟨c,hc,rfl⟩:=GL.mp ha;have hv:=xZ hg [c];have h2:=hv.num;unfold sX at hc;obtain⟨v,hv2⟩:=Jx.mp (Le.mp hc).2;have e:getD sp [c]=.ok (yp sp [c]):=by unfold getD yp;rw[hv2];rfl
  rw[bg ⋯,Gk,bg (by simp),Gk,bg (by simp),Gk,show getD (stg (qo dr sp) O8 none).2.2.2.2.1 [c]=.ok (yp sp [c])from e,Gk,hv.fmt,Gk,bg (by simp;omega),Gk,Gk,show jT _=Gr _ from aQ (by unfold cap;simp;omega)];rfl),Gk,HP,show mF [qp most] (Qp ((λk=>Bz k (yp sp k))∘λc=>[c]) (sX sp))=Gr ([qp most]++oG sp)from aQ (by show _<=100000;simp;omega),Gk]
 have l3:(oG sp).length<=26:=by unfold oG;rw[GR];exact l2
 show((bB dr _).bind _).bind _=_;rw[cA (g:=vb) (by show _<=100000;omega) (λa ha=>by
  have hk:=hc a ha;have h1:=hk.sm.num;have h2:=hk.ly;have h3:=hk.four;rw[bg ⋯,Gk,bg (by simp;omega),Gk,bg (by simp;omega),Gk,bg (by simp;omega),Gk,bg (by simp;omega),Gk,hk.sm.fmt,Gk,bg (by simp;omega),Gk,Gk,show jT _=Gr _ from aQ (by unfold cap;simp;omega)];rfl),Gk,show mF ([qp most]++oG sp) (dr.map vb)=Gr (([qp most]++oG sp)++dr.map vb)from aQ (by show _<=100000;simp;omega),Gk]
 rw[hde,Gk,sF (g:=uV) λd hd=>(hD d hd).fm.1];show(((bB _ _).bind _).bind _)=_;rw[cA (g:=λa:Tx×Dat=>a.1++[32]++Dy a.2) (by show _<=100000;rw[GR];omega) (λa ha=>by
  obtain⟨d,hd,rfl⟩:=GL.mp ha;obtain⟨_,h1,h2,h3,_⟩:=(hD d hd).fm;rw[bg (by simp;omega),Gk,bg (by simp;omega),Gk,h2,Gk,bg (by simp;omega),Gk,Gk,show jT _=Gr _ from aQ (by unfold cap;simp;omega)];rfl),Gk,HP,show mF (([qp most]++oG sp)++dr.map vb) (Qp ((λa:Tx×Dat=>a.1++[32]++Dy a.2)∘uV) ((((qo dr sp,beginD)::tl).drop 1).map (·.2)))=Gr (uW dr most sp ((((qo dr sp,beginD)::tl).drop 1).map (·.2)))from aQ (by show _<=100000;simp at hL ⊢;omega),Gk]
end
theorem yc{dr:List Cd}(h:dr.length<=8)(sp:Sp):zu dr sp=.ok (qo dr sp):=by
 unfold zu DV;rw[cA (g:=λ_=>(0:Int)) (by show _<=100000;omega)<|λ_ _=>rfl,Gk,Gk,List.map_const'];rfl
theorem DB{dr:List Cd}(most:Int){sp:Sp}(hc:∀t∈dr,Card t)(hg:Gd sp)(hl:sp.length<=100):Sim dr.length most 0 (most,stg (qo dr sp) .n none,[],[]) [(qo dr sp,beginD)] []:=
 ⟨⟨qo dr sp,[],rfl,⟨rfl,hc,KG,KG,hg.1,λp hp=>(hg.2 p hp).1,hl⟩,λ_ z=>(nomatch z),rfl,GO _⟩,λ_ z=>(nomatch z)⟩
theorem yd(x:Tx):n6 x x=.ok true:=by
 unfold n6;rw[decide_eq_true rfl]
theorem oJ{dr:List Cd}{most:Int}{sp:Sp}{w n:Nat}{L:Z02}{st und:List EN}(S:Sim w most n L st und)(h0:st[0]? =some (qo dr sp,beginD))(hm:Sm most)(hg:Gd sp)(hc:∀t∈dr,Card t)(hd:dr.length<=8)(hn:n<=60):∃x,ql L=.ok x/\pY dr most sp ((st.drop 1).map (·.2))=.ok x:=by
 obtain⟨a,b,c⟩:=uX S h0 hm hg hc hd hn;exact⟨_,by rw[c,sY hm hg hc hd b a],by rw[yb hm hg hc hd b a,sY hm hg hc hd b a]⟩
theorem sZ{st:List EN}(h:st.length<=1000):bB (cut st (some (1:Int)) none) (λ(a0:EN)=>Gr a0.2)=.ok ((st.drop 1).map (·.2)):=by
 rw[show cut st (some (1:Int)) none=st.drop 1 from wo st 1];exact cA (by show(st.drop 1).length<=100000;rw[KP];omega) λ_ _=>rfl
theorem BA(ns:List Int)(h:ns.length<=63):(xu ns).Ok (· =true):=by
 unfold xu sM;refine j9<|(xX h).imp λy zz=>?_;obtain⟨h1,h8,hc,hg,hl,hm⟩:=zz;have hm:Sm y.2.1:=hm;rw[show yf (y.1,y.2.2).1 y.2.1 (y.1,y.2.2).2=.ok (y.2.1,stg (qo y.1 y.2.2) .n none,[],[])from zY h8 _ _,Gk,yc h8,Gk,Gk,Gk];have S0:=DB y.2.1 hc hg hl;obtain⟨x0,t1,t2⟩:=oJ S0 rfl hm hg hc h8 (by omega);rw[t1,Gk,show pY y.1 y.2.1 y.2.2 []=.ok x0 from t2,Gk,yd,Gk,Gk,Z2 ⋯];show(((eG y.1 _).bind _).bind _).Ok _;rw[eA (by omega),Gk,Gk,Gk];obtain⟨c9,e9⟩:=nA h 9 ⋯;rw[show iI ns 9=.ok c9 from e9,Gk,Gk];have z0:=HL c9 (show(51:Int)≠0 by decide);have z1:=Ho c9 (show(0:Int)<51 by decide);obtain⟨m,hm1⟩:∃m:Nat,c9%51=(m:Int):=⟨(c9%51).toNat,by omega⟩
 rw[hm1]at z0 z1 ⊢;rw[jR (by omega),Gk];obtain⟨s,es,hs,hs0⟩:=pE (f:=i7 ql pY iI uE ny nz ns y) (λpre(s:Z02×List EN×List EN)=>Sim y.1.length y.2.1 pre.length s.1 s.2.1 s.2.2/\s.2.1[0]? =some (qo y.1 y.2.2,beginD)) ((JJ m).map λ(i:Nat)=>(i:Int)) ((y.2.1,stg (qo y.1 y.2.2) .n none,[],[]),[(qo y.1 y.2.2,beginD)],[]) ⟨S0,rfl⟩ (by
  intro pre a post s e ⟨S,h0⟩;have hlen:pre.length<m:=by have:=congrArg ID e;simp at this;omega
  obtain⟨k,hk,rfl⟩:∃k:Nat,k<m/\a=(k:Int):=by
   have:a∈(JJ m).map λ(i:Nat)=>(i:Int):=by rw[e];simp
   obtain⟨k,hk,e⟩:=GL.mp this;exact⟨k,Lq.mp hk,e.symm⟩
  unfold i7;obtain⟨c,ec⟩:=nA h (10+k) (by omega);obtain⟨d,ed,hd⟩:=(zW c h1 h8).ex;rw[show iI ns ((10:Int)+(k:Int))=.ok c from ec,Gk,ed,Gk];obtain⟨L',st',und',r,f1,f2,S',hr,hh⟩:=zX h1 h8 (by omega) S hd;obtain⟨x,t1,t2⟩:=oJ S' (hh.trans h0) hm hg hc h8 (by omega);have hl':=S'.len.2.2.2.1;refine⟨(L',st',und'),?_,by rw[GI];exact⟨S',hh.trans h0⟩⟩;rw[f1,Gk,Gk,Gk,Gk,f2,Gk,Gk,wu rfl hr,Gk,Gk,Z1 rfl,show bB (cut ((st',und'),r).1.1 (some (1:Int)) none) (λ(a0:EN)=>Gr a0.2)=_ from sZ (st:=st') (by omega),Gk,t2,Gk];by_cases z:(k:Int)%4=1
  ·rw[Z1<|decide_eq_true z,t1,Gk,yd];rfl
  ·rw[Z2 (by simpa using z)];rfl)
 rw[GR,NF]at hs;obtain⟨x,t1,t2⟩:=oJ hs hs0 hm hg hc h8 (by omega);have hl':=hs.len.2.2.2.1;rw[show Je [HM (([98,101,103,105,110]:Tx),(0:Int)).1,PQ (([98,101,103,105,110]:Tx),(0:Int)).2]=beginD from rfl,es,Gk];show(PR _ _).Ok _;rw[show bB (cut s.2.1 (some (1:Int)) none) (λ(a0:EN)=>Gr a0.2)=_ from sZ (by omega),Gk,t1,Gk,t2,Gk,yd,Gk,Gk,Z2 ⋯];obtain⟨s1,d',e1,e2⟩:=uQ (by omega) (by omega) hs;rw[e1,Gk,Gk,rk (by omega) (by omega) hs,Gk,Gk,Gk,Gk];show(yo _ _ _ _).Ok _;rw[e2];exact rfl
end Mi
namespace PySem.W.Fast
def tw861502493610598483:=()
def tw1932757220471624940:=()
def tw7774113678449685934:=()
def tw6717383575415001649:=()
def tw12063395154255005496:=()
def tw3149874078143834461:=()
def tw2250443682989827970:=()
def tw15997187109081770382:=()
def tw16100691501515759841:=()
def tw12709975386306396992:=()
def tw12545859065550832700:=()
def tw13571268590729069685:=()
def tw6194202620331982285:=()
def tw17890440400047909864:=()
def tw5407970635648715744:=()
def tw9003107776662980439:=()
def tw14607143338591219252:=()
def tw2078950565319712143:=()
def tw5694767641087392711:=()
def tw2768188642542392010:=()
def tw18425444933858846725:=()
def tw12549542988036985293:=()
def tw4860023922305330110:=()
def tw5522115075389312692:=()
def tw11898465464335795678:=()
def tw6056707288978253535:=()
def tw2399617604181995578:=()
def tw14154597600763967237:=()
def tw14808909156504927330:=()
def tw17829434514381053950:=()
def tw15771247859494662083:=()
def tw9433028549170029634:=()
def tw16109456028575089023:=()
def tw4545961482378311905:=()
def tw17155049476370652306:=()
def tw12738610918357793766:=()
def tw14454166528178196959:=()
def tw2595585439558603231:=()
def tw6008232320854092231:=()
def tw3374319085511977134:=()
def tw18248855084332350957:=()
def tw13053770412826190925:=()
def tw14538725608371270373:=()
def tw9320515035125037321:=()
def tw4772062507164038959:=()
def tw7007286002206832825:=()
def tw13034982811429478159:=()
def tw14329579894275425762:=()
def tw2479909634843643777:=()
def tw6084841979344569690:=()
def tw4512776594637900181:=()
def tw2629151800749243262:=()
def tw16159750380562633221:=()
def tw6124413428159637790:=()
def tw11095110211248682772:=()
def tw5010956058597451964:=()
def tw1840220198017710270:=()
def tw11525993766095887173:=()
def tw12715800853834201459:=()
def tw7155359931933253843:=()
def tw6327569006664949090:=()
def tw10861573186032746274:=()
def tw14819390147424179368:=()
def tw10326336056695345397:=()
def tw12145756527313086355:=()
def tw6162269159774324313:=()
def tw13813618637161013713:=()
def tw740290905518256060:=()
def tw12020253756985099128:=()
def tw15279809834360698895:=()
def tw11317637306720784765:=()
def tw1599053048872161195:=()
def tw16822532161544500889:=()
def tw8535803893964050539:=()
def tw14520296925931582552:=()
def tw2869065659524454656:=()
def tw14939612678797562433:=()
def tw15401437161963490237:=()
def tw16309811473084048462:=()
def tw3671519592330383864:=()
def tw16766484511958638138:=()
def tw7050804516273991350:=()
def tw9689729476882780088:=()
def tw3507769193172341495:=()
def tw17518593693041627797:=()
def tw11692469974320434101:=()
def tw6128106870883400570:=()
def tw11373181179767321252:=()
def tw7091221385724896812:=()
def tw12188032599808994241:=()
def tw2480015634913765671:=()
def tw14061609134260724683:=()
def tw11589282660436910429:=()
def tw7164969610272591079:=()
def tw17592209452093105858:=()
def tw14727194681476072466:=()
def tw13547939009206843870:=()
def tw14849461344987154502:=()
def tw384561282630992784:=()
def tw12330612334027959195:=()
def tw4026147355466621588:=()
def tw14833712730911297017:=()
def tw18383651708701053236:=()
def tw16140922888777852060:=()
def tw15240619367488684849:=()
def tw14993981098963755598:=()
def tw1205604411410820431:=()
def tw9385439782273163706:=()
def tw6046103115902281144:=()
def tw4015202173357781934:=()
def tw14736888041290939073:=()
def tw6105849179199505303:=()
def tw12768989823518198380:=()
def tw9947508896943372755:=()
def tw18031968618487185184:=()
def tw890339118813698166:=()
def tw15752536640612570366:=()
def tw8297923619242306668:=()
def tw6420159726195949164:=()
def tw14647417624928369756:=()
end PySem.W.Fast
section
open PySem PySem.W PyProof.Rows
set_option maxHeartbeats 0 in
open_top hd for PySem.Challenge.rw_wornband_k48_looms_told
end
namespace Wb
open PySem L2 Mi
theorem zZ{K:Gp}:∀vs H Q E,sN K vs H Q E->dY (isScr K) (rs isB) xu vs H Q E:=λvs H Q E⟨a,ns,h1,h2,h3,h4⟩=>
 ⟨⟨H,H,.refl _⟩,ns,.ref a,rfl,h1,⟨a,rfl,h2⟩,λ_=>False,Res.Ok.e ((BA ns h3).imp λr hr u W' _ hu=>by cases hr;cases hu;exact h4 _)⟩
theorem fin_mk{l:L8}{w:Ha}{K:Gp}{h:Heap}{mg:Str->Option Gv}{fa a1 a0 a3 b0 a5 b1 b2 b3 a6 a7 a8 a9 b4 b5 b6 b7 f_law:Addr}{od_law an_law:Option Addr}{sl_law:Array (Option Gv)}{oc_law kV_law dc_law pm_law cd_law ct_law:Gv}{i0:Tok}{c7:Addr}{i1:Nat}{i2 i3 i4 i5:Tok}{c8:Addr}{i6:Nat}{i7 i8 i9 j0 j1 j2:Tok}{c9:Addr}{j3:Nat}{j4 j5 j6 j7 j8 j9:Tok}{k0:Tok}(X:K.In h)(G:h.Ns mainGlobals mg)(hfa:mg "law"=some (.ref fa))
  (e8:CB K "Stage" a1)
  (d0:GZ K (.ref a1) "deed"=some none)
  (c3:GZ K (.ref a1) "standing"=some none)
  (d1:GZ K (.ref a1) "reached"=some none)
  (d2:GZ K (.ref a1) "highest"=some none)
  (c4:GZ K (.ref a1) "lengths"=some none)
  (d6:GZ K (.ref a1) "pick"=some none)
  (e9:CB K "Loom" a0)
  (d7:GZ K (.ref a0) "most"=some none)
  (d8:GZ K (.ref a0) "start"=some none)
  (c0:GZ K (.ref a0) "course"=some none)
  (d3:GZ K (.ref a0) "undone"=some none)
  (f0:DI K "_law_same" (tp 66) ["_law_found","_law_due"])
  (k1:DI K "_law_at" (tp 45) ["_law_script","_law_k"])
  (k2:DI K "_law_row" (tp 42) ["_law_cell","_law_many","_law_base"])
  (k3:DI K "_law_holes" (tp 43) ["_law_cell"])
  (k4:DI K "_law_card" (tp 44) ["_law_cell"])
  (k5:DI K "_law_draft" (tp 46) ["_law_script","_law_at_here","_law_width"])
  (k6:DI K "_law_most" (tp 48) ["_law_cell"])
  (k7:DI K "_law_spools" (tp 47) ["_law_draft_here","_law_cell"])
  (k8:DI K "_law_loom_parts" (tp 50) ["_law_script"])
  (k9:MB K a1 "__init__" "Stage.__init__" (tq 31 0) ["self","deed","standing","reached","highest","lengths","pick"])
  (l0:DI K "first_stage" (tp 32) ["draft","spools"])
  (l1:MB K a0 "__init__" "Loom.__init__" (tq 38 0) ["self","draft","most","spools"])
  (l2:DI K "_law_begin" (tp 49) ["_law_draft_here","_law_spools_here"])
  (l3:MB K a0 "deeds" "Loom.deeds" (tq 38 10) ["self"])
  (l4:DI K "told" (tp 40) ["loom"])
  (l5:DI K "_law_lines" (tp 68) ["_law_draft_here","_law_most_here","_law_spools_here","_law_done"])
  (l6:DI K "_law_sign" (tp 52) ["_law_cell"])
  (l7:DI K "_law_spoil" (tp 53) ["_law_text","_law_cell"])
  (l8:DI K "_law_turns" (tp 51) ["_law_cell","_law_many"])
  (l9:DI K "_law_rowtext" (tp 54) ["_law_cell","_law_width"])
  (m0:DI K "_law_deed" (tp 56) ["_law_cell","_law_width"])
  (m1:DI K "_law_turnover" (tp 55) ["_law_card_here"])
  (m2:DI K "_law_go" (tp 57) ["_law_turn"])
  (m3:DI K "_law_twist" (tp 59) ["_law_card_here","_law_turn"])
  (m4:DI K "_law_behind" (tp 58) ["_law_card_here","_law_turn"])
  (m5:DI K "_law_after" (tp 60) ["_law_state","_law_row_here","_law_most_here"])
  (m6:DI K "_law_pick" (tp 61) ["_law_cards","_law_row_here"])
  (m7:DI K "_law_do" (tp 62) ["_law_stack","_law_undone","_law_deed_here","_law_most_here"])
  (m8:MB K a0 "now" "Loom.now" (tq 38 1) ["self"])
  (m9:DI K "is_row" (tp 28) ["text","width"])
  (n0:DI K "twisting" (tp 23) ["tablet","turn"])
  (n1:DI K "taken" (tp 36) ["draft","row"])
  (n2:DI K "drawn_off" (tp 37) ["spools","lengths"])
  (n3:DI K "turned" (tp 24) ["tablet","turn"])
  (d_top:DI K "top" (tp 21) ["tablet"])
  (n4:DI K "bottom" (tp 22) ["tablet"])
  (n5:DI K "left_place" (tp 29) ["tablet","turn"])
  (n6:DI K "woven_stage" (tp 33) ["stage","row","most"])
  (n7:MB K a0 "go_on" "Loom.go_on" (tq 38 2) ["self","stages"])
  (n8:MB K a0 "weave" "Loom.weave" (tq 38 3) ["self","row"])
  (n9:DI K "check_tablet" (tp 35) ["draft","k"])
  (o0:DI K "flipped" (tp 25) ["tablet"])
  (o1:DI K "flipped_stage" (tp 34) ["stage","k"])
  (o2:MB K a0 "flip" "Loom.flip" (tq 38 4) ["self","k"])
  (o3:MB K a0 "undo" "Loom.undo" (tq 38 6) ["self"])
  (o4:MB K a0 "redo" "Loom.redo" (tq 38 7) ["self"])
  (o5:DI K "_law_try_deed" (tp 65) ["_law_loom","_law_deed_here"])
  (o6:DI K "_law_rows_of" (tp 63) ["_law_stack"])
  (o7:MB K a0 "tablets" "Loom.tablets" (tq 38 8) ["self"])
  (o8:MB K a0 "band" "Loom.band" (tq 38 9) ["self"])
  (o9:MB K a0 "twist" "Loom.twist" (tq 38 11) ["self","k"])
  (p0:MB K a0 "peak" "Loom.peak" (tq 38 12) ["self","k"])
  (p1:MB K a0 "rest" "Loom.rest" (tq 38 13) ["self","colour"])
  (p2:DI K "_law_stands" (tp 67) ["_law_loom","_law_state","_law_band","_law_done"])
  (a_law:Iu K mainGlobals "law"=some (some<|.ref f_law)) (l_law:K.lookup f_law=some ⟨oc_law,od_law,.func<|IU "law" "law" (defArgs<|tp 69) (defBody<|tp 69) (defScope<|tp 69) .none kV_law dc_law pm_law an_law cd_law ct_law,sl_law⟩) (c_law:K7 K cd_law "law"=true) (k_law:I9 K (.ref f_law)=true)
  (p3:DI K "_law_kinds" (tp 64) ["_law_e"])
  (zz:NB K ["ValueError","abs","all","any","bool","dict","int","isinstance","len","list","max","min","range","sorted","str","tuple","zip"])
  (p4:Iu K mainGlobals "HOLES"=some (some<|.int 4 i0))
  (p5:Iu K mainGlobals "OTHER_LAYS"=some (some<|.ref c7))
  (p6:K.lookup c7=some {cls:=.type "dict",data:=.dict #[⟨Jv w.params<|Gq "S",.str (Gq "S") i2,.str (Gq "Z") i3⟩,⟨Jv w.params<|Gq "Z",.str (Gq "Z") i4,.str (Gq "S") i5⟩] i1})
  (p7:(c7==sysModules)=false)
  (p8:Iu K mainGlobals "SLANTS"=some (some<|.ref c8))
  (p9:K.lookup c8=some {cls:=.type "dict",data:=.dict #[⟨hashInt<|1,.int (1) i7,.str (Gq "s") i8⟩,⟨hashInt<|-1,.int (-1) i9,.str (Gq "z") j0⟩,⟨hashInt<|0,.int (0) j1,.str (Gq "o") j2⟩] i6})
  (q0:(c8==sysModules)=false)
  (q1:Iu K mainGlobals "STEPS"=some (some<|.ref c9))
  (q2:K.lookup c9=some {cls:=.type "dict",data:=.dict #[⟨Jv w.params<|Gq "f",.str (Gq "f") j4,.int (1) j5⟩,⟨Jv w.params<|Gq "b",.str (Gq "b") j6,.int (-1) j7⟩,⟨Jv w.params<|Gq "i",.str (Gq "i") j8,.int (0) j9⟩] j3})
  (q3:(c9==sysModules)=false)
  (q4:Iu K mainGlobals "TURNS"=some (some<|.str (Gq "fbi") k0))
  (q5:Iu K mainGlobals "BandError"=some (some<|.ref a3)) (c1:XN K a3 vE)
  (f1:XB K "BadTablet" a3 b0)
  (f2:XB K "BadRow" a3 a5)
  (f3:XB K "BadText" a3 b1)
  (f4:XB K "BadMark" a3 b2)
  (f5:XB K "TooLong" a3 b3)
  (f6:XB K "TooTight" a3 a6)
  (f7:XB K "SpoolDry" a3 a7)
  (f8:XB K "NoTablet" a3 a8)
  (f9:XB K "NothingLeft" a3 a9)
  (g0:XB K "Unlike" a3 b4)
  (g1:XB K "SeenThread" a3 b5)
  (g2:XB K "NoSuchWay" a3 b6)
  (g3:XB K "Barred" a3 b7)
  (q6:XN K a5 (.ref a3::vE))
  (q7:XN K a8 (.ref a3::vE))
  (q8:XN K a9 (.ref a3::vE))
  (q9:XN K a7 (.ref a3::vE))
  (r0:XN K a6 (.ref a3::vE))
  (hn1:LO K (.builtin "object.__class__") "__get__"=some (some<|.builtin "getset_descriptor.__get__")) (ht1:Mr K (.builtin "object.__class__")=some true) (nd1:(a3::[b0,a5,b1,b2,b3,a6,a7,a8,a9,b4,b5,b6,b7]).Nodup)
  :∃fd:GJ,(∀(s:Gw)(v:Gv),MR s fd ⟨[v],[]⟩ [("_law_script",v)])/\∀base:Heap,K.In base->base.Ns mainGlobals mg->FnOk l.prog w K mg base CX0 28 fa fd ["_law_script"] (sN K):=by
 have e:=hfa.symm.trans<|Hk X G a_law;cases e;obtain⟨r1,d9,r2,r3,r4,c5,e0,e1,b8,b9,e2,g4,d4,r5,e3,r6,c6,_⟩:=NB.all X G zz;have d5:=Hk X G p4;have r7:=Hk X G p5;have r8:DictK K w c7 [(GU<|Gq "S",.str<|Gq "Z"),(GU<|Gq "Z",.str<|Gq "S")]:=⟨by decide,p7,by decide +kernel,_,_,p6,(.cons ⟨fD _ _,rfl,⟨_,rfl⟩⟩<|.cons ⟨fD _ _,rfl,⟨_,rfl⟩⟩ .nil)⟩
 have r9:=Hk X G p8;have s0:DictK K w c8 [(Jf<|1,.str<|Gq "s"),(Jf<|-1,.str<|Gq "z"),(Jf<|0,.str<|Gq "o")]:=⟨by decide,q0,by decide +kernel,_,_,p9,(.cons ⟨ij _ _,rfl,⟨_,rfl⟩⟩<|.cons ⟨ij _ _,rfl,⟨_,rfl⟩⟩<|.cons ⟨ij _ _,rfl,⟨_,rfl⟩⟩ .nil)⟩
 have g5:=Hk X G q1;have g6:DictK K w c9 [(GU<|Gq "f",.int<|1),(GU<|Gq "b",.int<|-1),(GU<|Gq "i",.int<|0)]:=⟨by decide,q3,by decide +kernel,_,_,q2,(.cons ⟨fD _ _,rfl,⟨_,rfl⟩⟩<|.cons ⟨fD _ _,rfl,⟨_,rfl⟩⟩<|.cons ⟨fD _ _,rfl,⟨_,rfl⟩⟩ .nil)⟩
 have s1:=Hk X G q4;have g7:=Hk X G q5;have s2:=Hk X G f1.1;have g8:=Hk X G f2.1;have s3:=Hk X G f3.1;have s4:=Hk X G f4.1;have s5:=Hk X G f5.1;have g9:=Hk X G f6.1;have h0:=Hk X G f7.1;have h1:=Hk X G f8.1;have e4:=Hk X G f9.1;have s6:=Hk X G g0.1;have s7:=Hk X G g1.1;have s8:=Hk X G g2.1;have s9:=Hk X G g3.1;have a4:=e8.cls;have a2:=e9.cls;refine⟨IU "law" "law" (defArgs<|tp 69) (defBody<|tp 69) (defScope<|tp 69) .none kV_law dc_law pm_law an_law cd_law ct_law,λs v=>.of_eq rfl,λbase KB _=>?_⟩;have Z:Kin K base [b0,a5,b1,b2,b3,a6,a7,a8,a9,b4,b5,b6,b7] a3:=c1.kin KB hn1 ht1 rfl nd1 (Hr.mpr ⟨f1.2,Hr.mpr ⟨f2.2,Hr.mpr ⟨f3.2,Hr.mpr ⟨f4.2,Hr.mpr ⟨f5.2,Hr.mpr ⟨f6.2,Hr.mpr ⟨f7.2,Hr.mpr ⟨f8.2,Hr.mpr ⟨f9.2,Hr.mpr ⟨g0.2,Hr.mpr ⟨g1.2,Hr.mpr ⟨g2.2,Hr.mpr ⟨g3.2,λ_ h=>nomatch h⟩⟩⟩⟩⟩⟩⟩⟩⟩⟩⟩⟩⟩);have t0:=Pu KB q6 c1;have t1:=Pu KB q7 c1;have h2:=Pu KB q8 c1;have t2:=Pu KB q9 c1;have t3:=Pu KB r0 c1;have t4:CalH l.prog w K mg base _ _ _ (iC K [b0,a5,b1,b2,b3,a6,a7,a8,a9,b4,b5,b6,b7] a3):=p3.calH X G λF=>xw F e1 r1 s2 g8 s3 s4 s5 g9 h0 h1 e4 s6 s7 s8 s9 g7;have SA:∀n:Nat,Cal l.prog w K mg base "_law_same" ["_law_found","_law_due"] n (eQ K n):=λn=>by
  induction n with
  |zero=>exact f0.cal X G λ_=>zE
  |succ n ih=>exact f0.cal X G λF=>xx F b8 e1 r4 e0 e3 b9 r6 c6 ih
 have h3:=SA 26;have e5:Cal l.prog w K mg base _ _ _ (cB _ _ _ iI):=k1.cal X G λF=>Fj F b8;have e6:Cal l.prog w K mg base _ _ _ (jO _ _ _ _ lX):=k2.cal X G λF=>Fm F d9 d4;have t5:Cal l.prog w K mg base _ _ _ (dY _ _ zo):=k3.cal X G λF=>Fn F e6;have t6:Cal l.prog w K mg base _ _ _ (dY _ _ ye):=k4.cal X G λF=>Fo F t5;have t7:Cal l.prog w K mg base _ _ _ (jO _ _ _ _ uZ):=k5.cal X G λF=>Fp F t6 e5 d4;have t8:Cal l.prog w K mg base _ _ _ (dY _ _ zp):=k6.cal X G λF=>Fq F;have t9:Cal l.prog w K mg base _ _ _ (cB _ _ _ zq):=k7.cal X G λF=>Ft F e6 e0;have u0:Cal l.prog w K mg base _ _ _ (dY _ _ zr):=k8.cal X G λF=>Fu F e5 t7 t8 t9 e2 g4;have e7:CalI l.prog w K mg base _ _ _ _ (uy a1 ["deed","standing","reached","highest","lengths","pick"]):=k9.calI e8 X G λF=>Fv F a4 d0 c3 d1 d2 c4 d6;have u1:Cal l.prog w K mg base _ _ _ (gj (wC (pk<|qA K)<|wC (pkD (λ(a:Tx)=>GU<|sOf a) isI) wN) (rs<|aS K a1)<|λa=>zt a.1 a.2.1):=l0.cal X G λF=>Fw F e7 a4 c5 b8 b9;have u2:CalI l.prog w K mg base _ _ _ _ (sC a0 (xv K a1) (wC (pk<|qA K)<|wC (sh isI)<|wC (pkD (λ(a:Tx)=>GU<|sOf a) isI) wN)<|λa=>yf a.1 a.2.1 a.2.2.1):=l1.calI e9 X G λF=>Fx F u1 a2 c0 d7 d8 d3;have u3:Cal l.prog w K mg base _ _ _ (cB _ _ _ zu):=l2.cal X G λF=>Fy F c5 b9;have h4:CalM l.prog w K mg base CX0 _ _ _ _ (gj (wC (vw<|bL K a1 a0) wN) (ro<|isU K)<|λa=>pX a.1):=l3.cal a2 λF=>Fz F a2 a4 c0 d0;have u4:Cal l.prog w K mg base _ _ _ (gj (wC (vw<|bL K a1 a0) wN) (rs isS)<|λa=>ql a.1):=l4.cal X G λF=>FA F h4 a2 a4 d7 d8 c4 c3 r5;have u5:Cal l.prog w K mg base _ _ _ (yR _ _ _ _ _ pY):=l5.cal X G λF=>FC F e3;have u6:Cal l.prog w K mg base _ _ _ (dY _ _ zv):=l6.cal X G λF=>FD F;have u7:Cal l.prog w K mg base _ _ _ (cB _ _ _ zw):=l7.cal X G λF=>FE F u6 b8;have u8:Cal l.prog w K mg base _ _ _ (cB _ _ _ zx):=l8.cal X G λF=>FF F e6;have u9:Cal l.prog w K mg base _ _ _ (cB _ _ _ zy):=l9.cal X G λF=>FG F u7 u8;have v0:Cal l.prog w K mg base _ _ _ (cB _ _ _ uE):=m0.cal X G λF=>FH F u9;have v1:Cal l.prog w K mg base _ _ _ (dY _ _ xm):=m1.cal X G λF=>FI F;have h5:Cal l.prog w K mg base _ _ _ (dY _ _ qm):=m2.cal X G λF=>FJ F;have h6:Cal l.prog w K mg base _ _ _ (cB _ _ _ nv):=m3.cal X G λF=>FK F h5;have v2:Cal l.prog w K mg base _ _ _ (cB _ _ _ yg):=m4.cal X G λF=>FL F h5;have v3:Cal l.prog w K mg base _ _ _ (jO _ _ _ _ sG):=m5.cal X G λF=>FN F h6 v2 d9 c5 e0 b8 e2 g4 c6;have h7:Cal l.prog w K mg base _ _ _ (cB _ _ _ mH):=m6.cal X G λF=>FO F h6 c6;have v4:Cal l.prog w K mg base _ _ _ (DJ (oL<|eg K) (oL<|eg K) (aC (isU K)<|aC isI aN) (isU K)<|λx y a=>ny x y a.1 a.2.1):=m7.cal X G λF=>FP F v1 v3 h7 e1 b8 b9 e3;have c2:CalM l.prog w K mg base CX0 _ _ _ _ (gj (wC (vw<|bL K a1 a0) wN) (rs<|aS K a1)<|λa=>fT a.1):=m8.cal a2 λF=>FQ F a2 c0 d8;have v5:Cal l.prog w K mg base _ _ _ (cB _ _ _ yh):=m9.cal X G λF=>FR F r2 b8 s1;have h8:Cal l.prog w K mg base _ _ _ (cB _ _ _ pZ):=n0.cal X G λF=>FT F g5 g6;have v6:Cal l.prog w K mg base _ _ _ (cB _ _ _ xo):=n1.cal X G λF=>FU F c6;have v7:CalR l.prog w K mg base _ _ _ (mE kW kW [b0,a5,b1,b2,b3,a6,a7,a8,a9,b4,b5,b6,b7] (rs kW) yi):=n2.calR X G λF=>FV F c5 h0 t2;have v8:Cal l.prog w K mg base _ _ _ (cB _ _ _ xp):=n3.cal X G λF=>FX F d5 g5 g6;have C_top:Cal l.prog w K mg base _ _ _ (dY _ _ jz):=d_top.cal X G λF=>Dh F d5;have v9:Cal l.prog w K mg base _ _ _ (dY _ _ zA):=n4.cal X G λF=>FY F d5;have w0:Cal l.prog w K mg base _ _ _ (cB _ _ _ yj):=n5.cal X G λF=>FZ F C_top v9 h8 r9 s0;have w1:CalR l.prog w K mg base _ _ _ (yZ (aS K a1) isS isI [b0,a5,b1,b2,b3,a6,a7,a8,a9,b4,b5,b6,b7] (rs<|aS K a1) sI):=n6.calR X G λF=>G0 F v5 h8 v7 v6 v8 w0 e7 a4 d2 c4 d1 c3 d9 r3 b8 e2 c6 g8 t0 g9 t3;have h9:CalM l.prog w K mg base CX0 _ _ _ _ (uY (bL K a1 a0) (aC (isL<|aS K a1) aN) isN<|λst a=>oA st a.1):=n7.cal a2 λF=>G1 F a2 c0 d3;have w2:CalM l.prog w K mg base (CXR l.prog w) _ _ _ _ (sx (bL K a1 a0) (aC isS aN) [b0,a5,b1,b2,b3,a6,a7,a8,a9,b4,b5,b6,b7] (qD K)<|λst a=>xq st a.1):=n8.cal a2 λF=>G2 F w1 c2 h9 a2 a4 d7 d6 b9;have w3:CalR l.prog w K mg base _ _ _ (mE (isL<|qA K) isI [b0,a5,b1,b2,b3,a6,a7,a8,a9,b4,b5,b6,b7] (rs isN) xr):=n9.calR X G λF=>G3 F b8 h1 t1;have w4:Cal l.prog w K mg base _ _ _ (dY _ _ zB):=o0.cal X G λF=>G4 F d5 r7 r8;have w5:CalR l.prog w K mg base _ _ _ (mE (aS K a1) isI [b0,a5,b1,b2,b3,a6,a7,a8,a9,b4,b5,b6,b7] (rs<|aS K a1) va):=o1.calR X G λF=>G5 F w3 w4 e7 a4 d2 c4 d1 c3 b9;have w6:CalM l.prog w K mg base (CXR l.prog w) _ _ _ _ (sx (bL K a1 a0) (aC isI aN) [b0,a5,b1,b2,b3,a6,a7,a8,a9,b4,b5,b6,b7] isN<|λst a=>xt st a.1):=o2.cal a2 λF=>G6 F h9 w5 c2 a2;have w7:CalM l.prog w K mg base (CXR l.prog w) _ _ _ _ (sx (bL K a1 a0) aN [b0,a5,b1,b2,b3,a6,a7,a8,a9,b4,b5,b6,b7] (isU K)<|λst a=>yk st):=o3.cal a2 λF=>G7 F a2 a4 c0 d3 d0 e4 h2;have w8:CalM l.prog w K mg base (CXR l.prog w) _ _ _ _ (sx (bL K a1 a0) aN [b0,a5,b1,b2,b3,a6,a7,a8,a9,b4,b5,b6,b7] (isU K)<|λst a=>yl st):=o4.cal a2 λF=>G8 F a2 a4 c0 d3 d0 e4 h2;have w9:Cal l.prog w K mg base _ _ _ (uY (bL K a1 a0) (aC (isU K) aN) (isU K)<|λst a=>nz st a.1):=o5.cal X G λF=>G9 F w2 w6 w7 w8 a2 Z g7 t4;have x0:Cal l.prog w K mg base _ _ _ (gj (wC (pk<|isT2 K (kq K)<|isU K) wN) (ro<|qD K)<|λa=>zC a.1):=o6.cal X G λF=>Ga F h7;have x1:CalM l.prog w K mg base CX0 _ _ _ _ (gj (wC (vw<|bL K a1 a0) wN) (ro<|qA K)<|λa=>ym a.1):=o7.cal a2 λF=>Gb F c2 a2 a4 c3 b9;have x2:CalM l.prog w K mg base CX0 _ _ _ _ (gj (wC (vw<|bL K a1 a0) wN) (ro<|qD K)<|λa=>yn a.1):=o8.cal a2 λF=>Ge F a2 a4 c0 d6 b9;have x3:CalM l.prog w K mg base CX0 _ _ _ _ (gj (wC (vw<|bL K a1 a0)<|wC (sh isI) wN) (rs isI)<|λa=>sJ a.1 a.2.1):=o9.cal a2 λF=>Gf F c2 a2 a4 d1;have x4:CalM l.prog w K mg base CX0 _ _ _ _ (gj (wC (vw<|bL K a1 a0)<|wC (sh isI) wN) (rs isI)<|λa=>sL a.1 a.2.1):=p0.cal a2 λF=>Gg F c2 a2 a4 d2;have x5:CalM l.prog w K mg base CX0 _ _ _ _ (gj (wC (vw<|bL K a1 a0)<|wC (sh isS) wN) (rs isI)<|λa=>qZ a.1 a.2.1):=p1.cal a2 λF=>Gh F c2 a2 a4 c4;have x6:Cal l.prog w K mg base _ _ _ (gj (wC (vw<|bL K a1 a0)<|wC (sh<|kq K)<|wC (sh<|isL<|qD K)<|wC (sh<|isL<|isU K) wN) (rs isB)<|λa=>yo a.1 a.2.1 a.2.2.1 a.2.2.2.1):=p2.cal X G λF=>Gi F h3 x1 x2 h4 x3 x4 x5 a2 b8 d4;exact FnOk.imp (Di (lp (st:=tp 69) l_law c_law k_law) u0 u2 u3 h3 u4 u5 e5 v0 v4 w9 x6 x0 a2 c5 b8 b9 d4) zZ
theorem walk{l:L8}{q:GQ}{loose:List Str}{XP:(Str->Option Gv)->Heap->Prop}{YP:Ha->Heap->Prop}{d:DefRec}{K:Q5->Gp}(hn:l.most=some 63)(hdf:d.params.defaults=[])(hY:∀(w:Ha)(h:Heap),YP w h->(K w.params).In h)
  (F:∀(w:Ha)(mg:Str->Option Gv)(fa:Addr)(h:Heap),(K w.params).In h->h.Ns mainGlobals mg->mg d.name=some (.ref fa)->∃fd:GJ,(∀(s:Gw)(u:Gv),MR s fd ⟨[u],[]⟩ [("_law_script",u)])/\∀base:Heap,(K w.params).In base->base.Ns mainGlobals mg->FnOk l.prog w (K w.params) mg base CX0 28 fa fd ["_law_script"] (sN<|K w.params)):
  Of q loose XP YP l.row.toRowW d [] (λf vs=>Ou f vs):=
 L2.walk_of (n:=63) (k:=28) (x:="_law_script") (CX:=λ_=>CX0) (sp:=λw=>sN<|K w.params) hn ⋯ hdf ⟨rfl,by decide,by decide⟩ hY F (λ_ _ a ns hl _ hS=>⟨a,ns,rfl,hS,hl,λ_=>rfl⟩) λ_ _ _ _ _ z=>z
end Wb
open PySem PySem.W PyProof.Rows
set_option maxRecDepth 100000 in
set_option maxHeartbeats 0 in
theorem PySem.Challenge.cw_wornband_k48_looms_told_holds : PySem.Challenge.rw_wornband_k48_looms_told.Holds := by
 refine hd ?_
 k_fill
 refine Wb.walk (l:=IY) rfl rfl (λw h Z0=>PySem.W.kIn_of Z0) ?F
 case F=>
  intro w mg fa h KX G hmg
  refine' Wb.fin_mk KX G hmg ..
  all_goals first|(apply Wb.DI.mk;(case da=>k_is);(case dl=>k_is);(case dc=>k_is);(case dk=>k_is);exact λ_ _ _ _ _ _ _=>rfl)|(apply Wb.MB.mk;(case da=>k_is);(case dy=>k_is);(case dl=>k_is);(case dc=>k_is);(case dk=>k_is);exact λ_ _ _ _ _ _ _=>rfl)|(apply Wb.CB.mk;all_goals k_is)|((repeat (apply Wb.NB.cons;(case a=>k_is)));exact Wb.NB.nil)|(apply Wb.XB.mk;(case u=>k_is);(case v=>k_is);(case ga=>k_is);(case gt=>k_is);(case cl=>k_is))|(apply Wb.XN.mk;(case v=>k_is);(case nn=>k_is);(case sk=>exact Wb.strKeys_of rfl);(case ni=>first|rfl|kernel_rfl))|k_is|rfl|decide|skip
