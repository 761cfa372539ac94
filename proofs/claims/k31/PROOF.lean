import PyProof.Rows.All
import Wide.All
import OpenK.AllK
import Wide.FinOn
import PyProof.EqAt
import PyProof.EqKinds
import PyProof.TupleCall
import KE.KDictSum
import KE.KRevIter
import KE.KRevSl
import KE.KDictLaws
import PyProof.StrLawsFirst
import KE.LcSums
import PyProof.EnumMake
import PyProof.TupleIter
import PyProof.StationsW
import PyProof.Rows.Own
import PyProof.NsDelKeeps
import PyProof.RulesAs
import PyProof.ExcAttrAll.ValueError
import KE.KIsAll
import PyProof.ExcBaseAll.ValueError
import PyProof.Rows.FStr
import PyProof.FString
import PyProof.Rows.StrNews
import PyProof.StrLawsTight
import PyProof.StrLawsChain
import PyProof.ExcInit
import PyProof.ExcClass3
import PyProof.InstStoreFacts
import PySem.SetTable
import PySem.SetOps
import PyProof.TupleKey
import PyProof.SetKind
import PyProof.IsRules
import KE.KSortTup
import PyProof.DictWalks
import PyProof.DictTruth
import PyProof.NeKinds
import PyProof.Rows.TupTab
import PySem.Challenge.RW_wornband_k31_ways_counted
open And renaming intro->KH
open Array renaming getD_eq_getD_getElem?->Dx,getElem?_eq_getElem->DC,getElem?_eq_some_iff->E1,getElem?_toList->E2,length_toList->Em,getD->Fo,getElem?_eq_none->FX,replicate->J6,mem_toList_iff->Jo,forIn_toList->K9,toList_push->Kr,toList_map->KJ,toList->Md
open Bool renaming false_ne_true->CS,false_eq_true->Dm,eq_iff_iff->Fw,and_eq_true->Ge,not_true->He,not_eq_true'->Ic,true_and->Io,not_false->Jx,or_eq_true->L6,false_and->Lg
open Classical renaming not_forall->Hl,byContradiction->HS,not_imp->HZ
open False renaming elim->EO
open ForInStep renaming yield->Fh
open Int renaming emod_lt_of_pos->DT,toNat_natCast->DY,emod_nonneg->E5,emod_eq_of_lt->Kw,ediv_one->Mg,le_refl->MB
open List renaming getElem?_eq_getElem->CJ,getElem?_eq_some_iff->CL,getElem?_map->CQ,mem_cons->CW,size_toArray->CY,mem_cons_self->CZ,mem_cons_of_mem->D7,length_map->Dc,mem_append_right->Dd,getElem?_append_right->Dg,mem_of_getElem?->Dh,getD_eq_getElem?_getD->Dj,map_cons->Dk,getElem?_append_left->Dq,not_mem_nil->DE,forall_mem_cons->DO,range->DP,mem_map->DU,length_append->DZ,getElem?_eq_none->E3,nodup_cons->Ea,Nodup->Ee,getElem?_eq_none_iff->Eg,length_cons->El,getElem?_cons_succ->Ep,nodup_iff_pairwise_ne->Eu,drop_eq_getElem_cons->Ez,sum_cons->EG,find?_cons->EH,mem_append_left->EI,lookup_cons->EJ,getElem?_cons_zero->EL,replicate->ES,ext_getElem?->EW,getElem?_range->F0,append_nil->F1,getElem?_take_of_lt->F5,map_map->F6,mem_iff_getElem->Fc,mem_append->Ff,filterMap_cons->Fi,take_of_length_le->Fj,getElem?_drop->Fn,getElem?_reverse->Fs,getElem?_zip_eq_some->Ft,pairwise_iff_getElem->Fu,append_assoc->FA,drop_length->FK,getElem_mem->FL,length->FP,getElem?_set_self->FR,map_nil->FU,mem_singleton->FY,of_mem_zip->FZ,mem_range->G7,nodup_nil->Gd,all_eq_true->Gf,length_erase_of_mem->Gj,forIn_cons->Gn,length_zip->Gp,length_nil->Gq,nil_append->Gr,mem_filterMap->Gs,length_eq_zero_iff->Gz,forIn_nil->GI,drop_eq_nil_of_le->GK,pairwise_map->GL,flatMap_cons->GQ,mem_iff_getElem?->GR,mem_of_mem_erase->GS,length_filter_le->GV,length_take->GX,zipIdx_cons->GZ,any_cons->Hd,getElem?_set_ne->Hh,zipIdx_nil->Hq,map_congr_left->Hu,length_reverse->Hv,findSome?_cons->Hw,pairwise_cons->HI,set_cons_zero->HL,set_cons_succ->HM,length_range->I9,filterMap_cons_some->Il,pairwise_mergeSort->Iw,cons_append->IF,pairwise_lt_range->IW,mem_filter->IY,foldl_cons->IZ,length_singleton->Jb,getElem?_zipWith->Jd,take_append_drop->Jf,mergeSort_perm->JC,length_flatMap->JG,lookup_append->JZ,contains_cons->K1,zip_cons_cons->Kc,reverse_cons->Ko,nodup_append->Kv,length_drop->KD,perm_middle->KL,mem_flatMap->KO,drop_zero->Lj,all_cons->LQ,take->M7,sum_nil->Mj,map_id->Mz,map->Na
open List.Nodup renaming not_mem_erase->Gi,length_le_of_subset->Hb
open List.Pairwise renaming nil->Fz,map->MY
open List.Perm renaming eq_of_pairwise->Ij
open List.cons renaming inj->Hf,injEq->J8
open Nat renaming lt_of_lt_of_le->CN,le_refl->CU,ne_of_lt->D0,lt_irrefl->DH,le_trans->E9,le_add_right->Ex,lt_succ_self->EK,ne_of_gt->ER,le_of_lt->Fx,le_succ->G9,lt_succ_of_lt->GJ,zero_add->HA,mod_lt->HH,add_sub_cancel->HN,lt_trans->IP,div_div_eq_div_mul->IT,sub_self->IU,pow_le_pow_right->Jy,reduceAdd->JM,reduceSub->JN,lt_or_gt_of_ne->Ka,div_eq_of_lt->KI,zero_le->KS,strongRecOn->L7,pow_succ->Me,lt_or_ge->Mh
open Ne renaming symm->F3
open Option renaming map_eq_some_iff->DM,map_some->G0,getD_some->GY,ne_none_iff_exists'->HF,isSome_iff_exists->Ie,getD_none->Ir,bind_eq_some_iff->Iz,bind_some->IA,isSome->JJ,isSome_some->JX,map->MU
open Option.some renaming inj->Dp,injEq->Ib
open Or renaming inr->Gv,inl->GH
open Prod renaming ext->IB
open Prod.mk renaming injEq->M5
open PyProof.Rows renaming boot_isinstance->CO,callWith_type1->E7,boot_int->G2,boot_tuple->GA,boot_list->GO,boot_bool->GP,boot_abs->GU,AllBare->Hy,boot_sorted->Im,subscriptTail_builtinR->IK,boot_str->Jk,slot_tupleiter_next->JF,listUpdate_at->JL,Subscript_->JU,IntsAre->Kj,callWith_builtin1->KC,seqEpoch_at->KW,boot_all->Ml,boot_sum->Mm,Call_->Mt,tail_any->Mv,TupTab->ME,IsTup->MW
open PySem renaming wpAny_bind->Cy,Value->CD,wpAny_pure->CG,Shared->CH,Program->CT,World->D6,FuncData->De,wpAny_field->Dl,Around->Dr,Spec->Ds,wpAny_call_entry->Dy,wpAny_callSpecial?_slot->DD,wpAny_newObj_type->DK,wpAny_seqItems->DL,wpAny_holding->DQ,wpAny_mono->DW,wpAny_setField_rec->DX,sizeLine_eq->E6,SetTable->Eb,wpAny_setField->Ed,boot_len->Ef,wpAny_isInstance->Ew,mem_of_lookup->EB,wpAny_setState_of->ED,wpAny_attempt->EF,DictEntry->EZ,wpAny_standAt->F4,wpAny_comprehension_free->F7,wpAny_onRaise->F8,isSubtype_stop->Fb,wpAny_typeNameOfWhole_keyiter->Fd,Scope->Fm,IsTupleKey->Fp,Builtin->Fq,wpAny_passesOwn->Fv,wpAny_truthy_bool->Fy,wpAny_typeNameOf_keyiter->FD,NameKind->FH,wpAny_askSetting->FN,IsZip->FQ,wpAny_rule->FV,pushCells_keeps->G1,wpAny_letGo->Ga,wpAny_execs_nil->Gk,wpAny_specialOf->Gm,wpAny_Call_Name_kw->Gu,IsPair->Gx,wpAny_pyIter_rangeiter->GC,wpAny_pyIter_list->GD,codeAny_mono->GG,wpAny_pyIter_slot->GN,wpAny_pyIter_zip->H9,wpAny_updateSeq_pair->Hk,wpAny_ite_split->Hr,wpAny_setEntries_of->Hx,wpAny_newFunctionEnv_cells->HD,wpAny_fieldsOf->HK,wpAny_letOwnedTupleGo_zip->HR,slot_list_getitem->HW,wpAny_of_eq->HY,wpAny_dictEntries->Ia,wpAny_getItem_list_slice->Ig,wpAny_handled->Ih,Comprehension->Ik,wpAny_eqBool_int->Iq,wpAny_forIn_list->ID,wpAny_pyNext_list_item->II,wpAny_pyNext_range_end->IJ,Keyword->IL,wpAny_Call_method_late->IM,codeAny_compStart_list->IQ,Draws->J4,signature?_of->J5,wpAny_dictEpoch->J7,codeAny_call_function->J9,wpAny_isSame_ref_self->Je,builtinLookup_eq_fast->Jg,wpAny_isOneOf_keyiter->Ji,wpAny_loadName_local->Jl,IsRangeIter->Jm,sliceRange_one->Jq,wpAny_throw->Js,wpAny_newTuple->Jt,codeAny_call_builtin->Jv,isSubtype_type->Jw,BindsTo->JA,wpAny_loadName_cell->JB,wpAny_isSubtype_exc->JE,evalPart_none->JH,wpAny_call->JR,wpAny_pyIter_ascii->JY,slot_listiter_next->K7,tupleKind_room_in1->Kb,wpAny_assign_Name->Ke,seqIndex_neg->Kk,wpAny_pyIter_wide->Kl,cellsFrom_ok->Km,wpAny_pyIter_enum->Kn,wpAny_loadPart_at->Kp,wpAny_storeSet_of->Ks,wpAny_execs_cons->Ky,Result->KA,seqIndex_of->KR,wpAny_loadPart'->KZ,typeLookup_type->L8,CellsOk->Lb,StrKeys->Lc,Model->Le,wpAny_Name->Lf,typeIs_str->Lh,call->Li,entryFor_alias->Ll,intBits_le_64->LB,call_list_seq->LS,eval_ListComp->LU,wpAny_newList->M1,Within->Mc,Operator->Mr,putAt->MA,Params->MS,Fin->N3
open PySem.Around renaming frames_deeper->Jp
open PySem.Builtin.Dict renaming showsAll->Jh,dictSlotNone->Lz
open PySem.Builtin.Dict_items renaming ownsTuple->Hs
open PySem.Builtin.Frozenset renaming oneOther->Lm,sizeOf->M0,addrOf->M3,slot0->Ma
open PySem.Builtin.List renaming listLengthHint->HB
open PySem.Builtin.Range renaming rangeFitsLong->E8,rangeSize->Ec,rangeFields->HU
open PySem.Builtin.SmallTypes renaming nextOf->Di,ownedTupleIsFree->Dz,ownedTupleHandOut->EC,refuseKeywords->Kd
open PySem.Builtin.Str renaming strSliceIndices->EN,tooLong->MN
open PySem.Calls renaming Name_function_global->HC,evalArgs_plain->Jr,spliced_cons->JQ,spliced_nil->Ki
open PySem.Challenge renaming rw_wornband_k31_ways_counted->EM,pw_wornband_k31_ways_counted->IE
open PySem.Data renaming cell->FG,fields->Hi,seq->Iu
open PySem.EntryCells renaming newEntry->JD
open PySem.EqMixed renaming eq_bool_str->Lr,eq_str_bool->Ls,ne_bool_str->Lx,ne_str_bool->Ly,eq_int_str->LG,eq_str_int->LJ,ne_int_str->LN,ne_str_int->LP
open PySem.EqNone renaming eq_none_none->Lo,eq_none_bool->Lp,eq_bool_none->Lq,ne_none_none->Lu,ne_none_bool->Lv,ne_bool_none->Lw,eq_none_int->LC,eq_none_str->LD,eq_int_none->LF,eq_str_none->LH,ne_none_int->LK,ne_none_str->LL,ne_int_none->LM,ne_str_none->LO
open PySem.F renaming slot_dict_keyiterator_next->Ej,slot_zip_next->En,slot_tuple_iterator_next->EU,args_zip_next_1->FJ,entry_zip_next->FW,args_tuple_iterator_next_1->Gw,entry_tuple_iterator_next->GB,args_dict_keyiterator_next_1->Ha,entry_dict_keyiterator_next->Hm,slot_dict_keyiterator_iter->Ht,excAttr_ValueError->HG,slot_dict_getitem->HQ,plainAttrs_str->IS,slot_list_append->Ja,entry_zip_new->Jc,slot_range_reversed->Jj,called_zip->K0,slot_dict_iter->KN,slot_set_iter->L9
open PySem.Heap renaming get?_push_of_some->CB,get?_push_size->CM,lt_size->CP,SameBut->D5,get?_update_other->Du,size_push->DJ,get?_update_self->DS,ExtBut->F9,get?_none_of_le->Hg,size_update->Iy,get?_push_ne->Ku
open PySem.Heap.IsSliceOf renaming new->JW
open PySem.Heap.Ns renaming new->KU
open PySem.Heap.SameBut renaming update->E4
open PySem.Heap.SetOf renaming objOf->N1
open PySem.IsRange renaming new->Ms
open PySem.NameKind renaming free->Ek,cell->JI
open PySem.Obj renaming mapFields->DV,data_mapFields->Es,isFreed_of_fields->F2,mapSeq->Fg,putSet->HJ,cls_mapFields->HX
open PySem.PassesOwn renaming never->DG
open PySem.PyData renaming keyHash->Hn
open PySem.SeqAt renaming EqAt->MP
open PySem.SeqAt.EqAt renaming int_str->JO,str_int->JP,none_bool->Mw,bool_none->Mx,bool_bool->My,none_int->MF,none_str->MG,bool_int->MH,bool_str->MI,int_none->MJ,int_bool->MK,str_none->ML,str_bool->MM,int_int->MQ,str_str->MR,same->N9
open PySem.SeqAt.RcAt renaming lists_lengths->M4,lists->N5
open PySem.SetTable renaming leap->Dw,bits->DA,runEnd->DN,below->Ei,insertAt->Eo,turns->Et,grown->Gb,sizeAbove->Gy,fill->JK,has->Kq,fresh->Ln,slot->LX,laid->LY,fits->LZ
open PySem.SetTable.below renaming go->G4
open PySem.SetTable.layClean renaming free->EY
open PySem.SetTable.probe renaming go->G5
open PySem.Str renaming ofString->CI,empty->M6,length->MO
open PySem.Txt renaming find->HE,slice->KG,mul->MX
open PySem.Value renaming ref->D8,none->Df,type->G6,int->Ip,str->Kx,bool->Ld,isStrOf->LA,builtin->LW,isInt->Mn,float->Mq
open PySem.Value.ref renaming inj->LV
open PySem.W renaming Frag->CF,findIn->CV,nsIn->D4,mg_of->Dt,mg_none_of->DB,kitOne->DR,kia_one->Eh,keepIn->EE,fnOf->ET,codeIn->FI,cellsFrom_some->FT,InstAt->GF,OpenLaw->Hj,looks_findIn->Hz,methodObj->HV,instObj->IX,lookIn->Jn,looks_mroIn->Ju,callWith_K->JS,codeRec_of->JT,looks_find->K8,specialIn->Kf,kitx_list->Kg,kitx_dict->Kh,plainGet->Kz,takesIn->KY,kitMeta->L5,WalkO->La,notCls->Lk,class_get->M8,kas_rev->Mf,Looks->N2
open PySem.W.WData renaming int->N0
open PySem.W.WShape renaming has->MT
open PySem.pickOrder renaming go->Kt
open Sum renaming inl->FE,inr->FF
open Sum.inl renaming inj->Mo
open Sum.inr renaming inj->Mp
open True renaming intro->G8
set_option Elab.async false
set_option linter.all false
set_option maxRecDepth 100000
namespace L2
open PySem PySem.Spec PyProof.Rows
abbrev Key:=Sum Int Str
def fT:Key->CD->Bool
 | .inl k,v=>Mn k v
 | .inr x,v=>LA x v
def sF(w:D6):Key->Int
 | .inl k=>hashInt k
 | .inr x=>hashStr w x
theorem bN:∀{k:Key}{v:CD},fT k v=true->(∃i t,k=FE i/\v=Ip i t)\/(∃x t,k=FF x/\v=Kx x t)
 | .inl i,v,h=>by
  obtain⟨t,e⟩:=Value.isInt_shape (k:=i) (v:=v) h;exact .inl ⟨i,t,rfl,e⟩
 | .inr x,v,h=>by
  obtain⟨t,e⟩:=Value.isStrOf_shape (x:=x) (v:=v) h;exact .inr ⟨x,t,rfl,e⟩
theorem gj(i:Int)(t:Tok):fT (.inl i) (.int i t)=true:=by simp[fT,Mn]
theorem gk(x:Str)(t:Tok):fT (.inr x) (.str x t)=true:=by simp[fT,LA]
theorem ye(a b:Int):decide ((FE a:Key)=FE b)=(a==b):=by
 by_cases e:a=b;·subst e;simp
 ·have h:¬(FE a:Key)=FE b:=fun q=>e<|Mo q;rw[decide_eq_false h];exact(beq_eq_false_iff_ne.mpr e).symm
theorem yf(a b:Str):decide ((FF a:Key)=FF b)=decide (a=b):=by
 by_cases e:a=b;·subst e;simp
 ·have h:¬(FF a:Key)=FF b:=fun q=>e<|Mp q;rw[decide_eq_false h,decide_eq_false e]
theorem yg(a:Int)(b:Str):decide ((FE a:Key)=FF b)=false:=decide_eq_false (fun q=>nomatch q)
theorem yh(a:Str)(b:Int):decide ((FF a:Key)=FE b)=false:=decide_eq_false (fun q=>nomatch q)
def mixKind(prog:CT)(w:D6):PySem.KeyKind prog w Key where
 is:=fT
 hash:=sF w
 inj:=fun v a b ha hb=>by
  rcases bN ha with⟨i,t,rfl,rfl⟩|⟨x,t,rfl,rfl⟩
  ·rcases bN hb with⟨j,u,rfl,e⟩ | ⟨y,u,rfl,e⟩
   ·injection e with e1 _;rw[e1]
   ·exact nomatch e
  ·rcases bN hb with⟨j,u,rfl,e⟩ | ⟨y,u,rfl,e⟩
   ·exact nomatch e
   ·injection e with e1 _;rw[e1]
 byValue:=fun k v h=>by
  rcases bN h with⟨i,t,rfl,rfl⟩|⟨x,t,rfl,rfl⟩<;>rfl
 pyHash:=fun hv h=>by
  rcases bN hv with⟨i,t,rfl,rfl⟩|⟨x,t,rfl,rfl⟩
  ·exact wpAny_pyHash_int h
  ·exact wpAny_pyHash_str h
 eqBool:=fun hu hv h=>by
  rcases bN hu with⟨i,t,rfl,rfl⟩|⟨x,t,rfl,rfl⟩
  ·rcases bN hv with⟨j,u,rfl,rfl⟩ | ⟨y,u,rfl,rfl⟩
   ·rw[ye]at h;exact Iq h
   ·rw[yg]at h;exact JO i t y u _ _ _ _ h
  ·rcases bN hv with⟨j,u,rfl,rfl⟩ | ⟨y,u,rfl,rfl⟩
   ·rw[yh]at h;exact JP x t j u _ _ _ _ h
   ·rw[yf]at h;exact wpAny_eqBool_str h
 «strs»:=fun k x t v h=>by
  rcases bN h with⟨i,u,rfl,e⟩|⟨y,u,rfl,e⟩
  ·exact nomatch e
  ·injection e with e1 _;subst e1;cases v<;>rfl
theorem mM(prog:CT)(w:D6)(i:Int)(t:Tok):(mixKind prog w).is (.inl i) (.int i t)=true:=gj i t
theorem mO(prog:CT)(w:D6)(x:Str)(t:Tok):(mixKind prog w).is (.inr x) (.str x t)=true:=gk x t
inductive V where
 |non|bl (b:Bool)|int (i:Int)|str (x:Str)|byt (b:Array UInt8)|flt (b:UInt64)|ref (a:Addr)|ty (n:String)
 deriving DecidableEq
def RelV:V->CD->Prop
 | .non,u=>u=Df
 | .bl b,u=>u=Ld b
 | .int i,u=>∃t,u=Ip i t
 | .str x,u=>∃t,u=Kx x t
 | .byt b,u=>∃t,u=Value.bytes b t
 | .flt b,u=>∃t,u=Mq b t
 | .ref a,u=>u=D8 a
 | .ty n,u=>u=G6 n
abbrev Vals:List V->List CD->Prop:=Paired RelV
theorem Vals.length{xs:List V}{us:List CD}(r:Vals xs us):xs.length=us.length:=Paired.length r
theorem Vals.get:∀{xs:List V}{us:List CD}{i:Nat}{x:V},Vals xs us->xs[i]? =some x->∃u,us[i]? =some u/\RelV x u
 |_,_,_,_,.nil,e=>by simp at e
 |_,_,0,_,.cons r _,e=>by simp at e;subst e;exact⟨_,rfl,r⟩
 |_,_,i+1,x, .cons _ t,e=>by
  obtain⟨u,h1,h2⟩:=Vals.get (i:=i) (x:=x) t (by simpa using e);exact⟨u,by simpa using h1,h2⟩
theorem Vals.set{x:V}{u:CD}(r:RelV x u):∀{xs:List V}{us:List CD}(i:Nat),Vals xs us->Vals (xs.set i x) (us.set i u)
 |_,_,_,.nil=>.nil
 |_,_,0,.cons _ t=>.cons r t
 |_,_,i+1,.cons q t=>.cons q<|Vals.set r i t
theorem Vals.append:∀{xs ys:List V}{us ws:List CD},Vals xs us->Vals ys ws->Vals (xs++ys) (us++ws)
 |_,_,_,_,.nil,s=>s
 |_,_,_,_,.cons r t,s=>.cons r<|Vals.append t s
theorem Vals.take:∀{xs:List V}{us:List CD}(n:Nat),Vals xs us->Vals (xs.take n) (us.take n)
 |_,_,0,_=>.nil
 |_,_,_+1,.nil=>.nil
 |_,_,n+1,.cons r t=>.cons r<|Vals.take n t
theorem Vals.drop:∀{xs:List V}{us:List CD}(n:Nat),Vals xs us->Vals (xs.drop n) (us.drop n)
 |_,_,0,r=>r
 |_,_,_+1,.nil=>.nil
 |_,_,n+1,.cons _ t=>Vals.drop n t
def RelO:Option V->Option CD->Prop
 |some v,some u=>RelV v u
 |none,none=>True
 |_,_=>False
def KV{κ:Type}:List (κ×V)->List (κ×CD)->Prop:=Paired fun(p:κ×V)(q:κ×CD)=>p.1=q.1/\RelV p.2 q.2
def kV:Key->V
 | .inl i=>.int i
 | .inr x=>.str x
inductive HO where
 |lst (xs:List V)
 |tup (xs:List V)
 |dK (kvs:List (Key×V))|dT (kvs:List (List Key×V))
 |set (S:Int->Bool) (n:Nat)
 |ins (C dx:Addr) (fs:List (Str×V))
 |own (x:Addr)
 |xd (fs:List (Str×V))
 |met (f x:Addr)
 |rng (lo hi:Int)
 |frz (o:Obj) (u:HO)
 |tbl (ps:Array CD)
 |ext (φ:Heap->Prop)
abbrev Hp:=Addr->Option HO
def cI(H:Hp)(a:Addr)(o:HO):Hp:=fun b=>if b=a then some o else H b
theorem aG{H:Hp}{a:Addr}{o:HO}:cI H a o a=some o:=by unfold cI;rw[if_pos rfl]
theorem ax{H:Hp}{a b:Addr}{o:HO}(h:b≠a):cI H a o b=H b:=by unfold cI;rw[if_neg h]
theorem cg{H:Hp}{a b:Addr}{o:HO}(h:H a=some o)(h':H b=none):a≠b:=by
 intro e;subst e;rw[h]at h';cases h'
def IsTupD(h:Heap)(a:Addr)(items:Array CD):Prop:=∃o,h.get? a=some o/\(o.cls=.type "tuple"/\o.dict=none)/\∃n,o.data=.seq items n
theorem IsTupD.tup{h:Heap}{a:Addr}{items:Array CD}(t:IsTupD h a items):MW h a items:=let ⟨o,e,c,n,d⟩:=t;⟨o,e,c.1,n,d⟩
theorem IsTupD.new(h:Heap)(items:Array CD):IsTupD (h.push {cls:=.type "tuple",data:=.seq items}) h.objs.size items:=⟨_,CM h rfl,⟨rfl,rfl⟩,0,rfl⟩
section
variable(P:CT)(w:D6)
def ObjOk(H:Hp)(h:Heap)(a:Addr):HO->Prop
 | .lst xs=>xs.length<=sizeLine/\∃(its:List CD)(n:Nat),Vals xs its/\h.get? a=some {cls:=.type "list",data:=.seq its.toArray n}
 | .tup xs=>xs.length<=sizeLine/\∃its:List CD,Vals xs its/\IsTupD h a its.toArray
 | .dK kvs=>kvs.length<=sizeLine/\(a==sysModules)=false/\∃vs,KV kvs vs/\h.DictOf (mixKind P w) a vs
 | .dT kvs=>kvs.length<=sizeLine/\(a == sysModules)=false/\∃xs:List (List Key×Addr×CD),
   Paired (fun(p:List Key×V)(q:List Key×Addr×CD)=>p.1=q.1/\H q.2.1=some (.tup<|p.1.map kV)/\RelV p.2 q.2.2) kvs xs/\
   ∃o es ep,h.get? a=some o/\o.ExactDict/\o.data=.dict es ep/\es.toList=xs.map (entryOfKey<|tupleKind<|mixKind P w)/\(xs.map (·.1)).Nodup
 | .set S n=>h.SetOf (intKind P w) a S n
 | .ins C dx fs=>H dx=some (.own a)/\fs.length<=1000/\dx≠a/\h.get? a=some (IX C dx)/\
   ∃mA,h.Ns1 dx mA/\(∀f,RelO (fs.lookup f)<|mA f)/\Mc mA (fs.map (·.1))
 | .own _=>∃o,h.get? a=some o
 | .xd fs=>∃mA,h.Ns1 a mA/\∀f,RelO (fs.lookup f)<|mA f
 | .rng lo hi=>∃t u v,h.get? a=some {cls:=.type "range",data:=.fields #[.int lo t,.int hi u,.int 1 v]}
 | .frz o u=>h.get? a=some o/\ObjOk H h a u
 | .tbl ps=>h.get? a=some {cls:=.none,data:=.fields ps}
 | .met f x=>h.get? a=some (HV (.ref f)<|.ref x)
 | .ext φ=>φ h/\(∃o,h.get? a=some o)/\∀h1 h2:Heap,φ h1->(∀o,h1.get? a=some o->h2.get? a=some o)->φ h2
def HOk(H:Hp)(h:Heap):Prop:=∀a o,H a=some o->ObjOk P w H h a o
end
section
variable{P:CT}{w:D6}{H H':Hp}{h h':Heap}{a:Addr}{o:HO}
theorem ObjOk.lt(x:ObjOk P w H h a o):a<h.objs.size:=by
 cases o with
 |lst xs=>obtain⟨_,_,_,_,e⟩:=x;exact CP e
 |tup xs=>obtain⟨_,_,_,p⟩:=x;exact p.tup.lt
 |dK kvs=>obtain⟨_,_,_,_,o,_,_,e,_⟩:=x;exact CP e
 |dT kvs=>obtain⟨_,_,_,_,o,_,_,e,_⟩:=x;exact CP e
 |set S n=>obtain⟨o,_,_,_,e,_⟩:=x;exact CP e
 |ins C dx fs=>obtain⟨_,_,_,e,_⟩:=x;exact CP e
 |own y=>obtain⟨_,e⟩:=x;exact CP e
 |xd fs=>obtain⟨_,⟨_,_,_,e,_⟩,_⟩:=x;exact CP e
 |rng lo hi=>obtain⟨_,_,_,e⟩:=x;exact CP e
 |frz ob u=>obtain⟨e,_⟩:=x;exact CP e
 |tbl ps=>exact CP (show h.get? a=some _ from x)
 |met f y=>exact CP (show h.get? a=some _ from x)
 |ext φ=>obtain⟨_,⟨_,e⟩,_⟩:=x;exact CP e
theorem Paired.mapP{α β:Type}{F G:α->β->Prop}:∀{l₁:List α}{l₂:List β},Paired F l₁ l₂->(∀a b,F a b->G a b)->Paired G l₁ l₂
 |_,_,.nil,_=>.nil
 |_,_,.cons r t,f=>.cons (f _ _ r)<|Paired.mapP t f
theorem ObjOk.stay(x:ObjOk P w H h a o)(k:∀b u,(b=a\/H b=some (.own a))->h.get? b=some u->h'.get? b=some u)
  (ho:∀b,H b=some (.own a)->H' b=some (.own a)) (ht:∀b xs,H b=some (.tup xs)->H' b=some (.tup xs)):ObjOk P w H' h' a o:=by
 induction o with
 |lst xs=>obtain⟨z,its,n,r,e⟩:=x;exact⟨z,its,n,r,k _ _ (.inl rfl) e⟩
 |tup xs=>obtain⟨z,its,r,ob,e,c⟩:=x;exact⟨z,its,r,ob,k _ _ (.inl rfl) e,c⟩
 |dK kvs=>obtain⟨z,y,vs,r,ob,es,ep,e,c⟩:=x;exact⟨z,y,vs,r,ob,es,ep,k _ _ (.inl rfl) e,c⟩
 |dT kvs=>
  obtain⟨z,y,xs,r,ob,es,ep,e,c⟩:=x;exact⟨z,y,xs,Paired.mapP r fun p q z=>⟨z.1,ht _ _ z.2.1,z.2.2⟩,ob,es,ep,k _ _ (.inl rfl) e,c⟩
 |set S n=>obtain⟨ob,es,ep,t,e,c⟩:=x;exact⟨ob,es,ep,t,k _ _ (.inl rfl) e,c⟩
 |ins C dx fs=>
  obtain⟨d,z,ne,e,mA,⟨od,es,ep,e2,c⟩,r⟩:=x;exact⟨ho _ d,z,ne,k _ _ (.inl rfl) e,mA,⟨od,es,ep,k _ _ (.inr d) e2,c⟩,r⟩
 |own y=>obtain⟨ob,e⟩:=x;exact⟨ob,k _ _ (.inl rfl) e⟩
 |xd fs=>obtain⟨mA,⟨od,es,ep,e,c⟩,r⟩:=x;exact⟨mA,⟨od,es,ep,k _ _ (.inl rfl) e,c⟩,r⟩
 |rng lo hi=>obtain⟨t,u,v,e⟩:=x;exact⟨t,u,v,k _ _ (.inl rfl) e⟩
 |frz ob u ih=>obtain⟨e,q⟩:=x;exact⟨k _ _ (.inl rfl) e,ih q⟩
 |tbl ps=>
  have e:h.get? a=some {cls:=.none,data:=.fields ps}:=x;show h'.get? a=some {cls:=.none,data:=.fields ps};exact k a _ (.inl rfl) e
 |met f y=>
  have e:h.get? a=some (HV (.ref f)<|.ref y):=x;show h'.get? a=some (HV (.ref f)<|.ref y);exact k a _ (.inl rfl) e
 |ext φ=>obtain⟨p,⟨o,e⟩,st⟩:=x;exact⟨st _ _ p fun o q=>k _ _ (.inl rfl) q,⟨o,k _ _ (.inl rfl) e⟩,st⟩
theorem HOk.lt(x:HOk P w H h)(e:H a=some o):a<h.objs.size:=(x a o e).lt
theorem HOk.fresh(x:HOk P w H h)(e:h.objs.size<=a):H a=none:=by
 cases q:H a with
 |none=>rfl
 |some u=>exact absurd (CN (x.lt q) e)<|DH _
theorem HOk.kept(x:HOk P w H h)(k:∀b u,h.get? b=some u->h'.get? b=some u):HOk P w H h':=fun a o e=>
 (x a o e).stay (fun b u _ q=>k b u q) (fun _ q=>q) fun _ _ q=>q
theorem HOk.laid(x:HOk P w H h)(k:∀b u,h.get? b=some u->h'.get? b=some u)(hp:h.objs.size<=a)(new:ObjOk P w (cI H a o) h' a o):HOk P w (cI H a o) h':=fun b u e=>by
 have hn:=x.fresh hp;by_cases hb:b=a;·subst hb;rw[aG]at e;cases e;exact new
 ·rw[ax hb]at e;exact(x b u e).stay (fun c v _ q=>k c v q) (fun c q=>by rw[ax<|cg q hn];exact q) fun c xs q=>by rw[ax<|cg q hn];exact q
end
def Rd(H:Hp)(a:Addr)(u:HO):Prop:=H a=some u\/∃o,H a=some (.frz o u)
theorem Rd.ok{P:CT}{w:D6}{H:Hp}{h:Heap}{a:Addr}{u:HO}(r:Rd H a u)(x:HOk P w H h):ObjOk P w H h a u:=by
 rcases r with r|⟨o,r⟩
 ·exact x a u r
 ·obtain⟨_,q⟩:=x a _ r;exact q
def zS:Option HO->Prop
 |some (.lst _)=>True
 |some (.dK _)=>True
 |some (.dT _)=>True
 |some (.set _ _)=>True
 |some (.ins _ _ _)=>True
 |some (.ext _)=>True
 |_=>False
section
variable{P:CT}{w:D6}{H:Hp}{h h':Heap}{x e:Addr}{o':HO}
theorem HOk.write(ok:HOk P w H h)(mu:zS (H x))(he:e=x\/H e=some (.own x))(k:∀b u,b≠e->h.get? b=some u->h'.get? b=some u)(heo:∃u,h'.get? e=some u)
  (new:ObjOk P w (cI H x o') h' x o'):HOk P w (cI H x o') h':=fun b u q=>by
 have nown:∀c y,H c=some (.own y)->c≠x:=fun c y r z=>by subst z;rw[r]at mu;exact mu
 have ntup:∀c xs,H c=some (.tup xs)->c≠x:=fun c xs r z=>by subst z;rw[r]at mu;exact mu
 by_cases hb:b=x;·subst hb;rw[aG]at q;cases q;exact new
 ·rw[ax hb]at q;by_cases hbe:b=e
  ·have q':H b=some (.own x):=by
    rcases he with z|z;·exact absurd (hbe.trans z) hb
    ·rw[hbe];exact z
   rw[q]at q';cases q';obtain⟨v,hv⟩:=heo;exact⟨v,by rw[hbe];exact hv⟩
  ·refine(ok b u q).stay (fun c v hc r=>k c v ?_ r) (fun c r=>by rw[ax<|nown c b r];exact r) fun c xs r=>by rw[ax<|ntup c xs r];exact r
   rcases hc with rfl|hc;·exact hbe
   ·rintro rfl;rcases he with z|z;·exact nown c b hc z
    ·rw[hc]at z;cases z;exact hb rfl
end
structure Un(fs ex:List Addr)(H H':Hp)(h h':Heap):Prop where
 keep:∀b o,h.get? b=some o->H b=none->b∉fs->b∉ex->h'.get? b=some o
 slot:∀b o,h.get? b=some o->H b=none->b∈fs->b∉ex->∃sl,h'.get? b=some {o with slots:=sl}
 free:∀b o,h.get? b=some o->H b=none->b∉ex->H' b=none
 there:∀b o,h.get? b=some o->b∉ex->∃o',h'.get? b=some o'
 tups:∀b xs,H b=some (.tup xs)->H' b=some (.tup xs)
 frzs:∀b o u,H b=some (.frz o u)->H' b=some (.frz o u)
 tbls:∀b ps,H b=some (.tbl ps)->∃more,H' b=some (.tbl<|ps++more)
section
variable{fs fs' ex ex':List Addr}{H H1 H2:Hp}{h h1 h2 h':Heap}{a x e:Addr}{o:HO}
theorem Un.any(u:Un fs ex H H1 h h1){b:Addr}{ob:Obj}(q:h.get? b=some ob)(n:H b=none)(hx:b∉ex):∃sl,h1.get? b=some {ob with slots:=sl}:=by
 by_cases hb:b∈fs;·exact u.slot b ob q n hb hx
 ·exact⟨ob.slots,u.keep b ob q n hb hx⟩
theorem Un.kept(k:∀b u,h.get? b=some u->h'.get? b=some u):Un fs ex H H h h':=
 ⟨fun b ob q _ _ _=>k b ob q,fun b ob q _ _ _=>⟨ob.slots,k b ob q⟩,fun _ _ _ n _=>n,fun b ob q _=>⟨ob,k b ob q⟩,fun _ _ q=>q,fun _ _ _ q=>q,fun _ ps q=>⟨#[],by rw[q];simp⟩⟩
theorem Un.refl:Un fs ex H H h h:=Un.kept fun _ _ q=>q
theorem Un.laid(k:∀b u,h.get? b=some u->h'.get? b=some u)(hp:h.objs.size<=a)(hn:H a=none):Un fs ex H (cI H a o) h h' where
 keep:=fun b u q _ _ _=>k b u q
 slot:=fun b u q _ _ _=>⟨u.slots,k b u q⟩
 free:=fun b u q n _=>by rw[ax<|D0<|CN (CP q) hp];exact n
 there:=fun b u q _=>⟨u,k b u q⟩
 tups:=fun b xs q=>by rw[ax<|cg q hn];exact q
 frzs:=fun b u xs q=>by rw[ax<|cg q hn];exact q
 tbls:=fun b ps q=>⟨#[],by rw[ax<|cg q hn,q];simp⟩
theorem Un.write(mu:zS (H x))(he:e=x\/H e=some (.own x))(k:∀b u,b≠e->h.get? b=some u->h'.get? b=some u)(heo:∃u,h'.get? e=some u):Un fs ex H (cI H x o) h h':=by
 have hx:∀b,H b=none->b≠x:=fun b n z=>by subst z;rw[n]at mu;exact mu
 have hb:∀b,H b=none->b≠e:=fun b n z=>by
  subst z;rcases he with r|r
  ·exact hx b n r
  ·rw[n]at r;cases r
 have hm:∀b u,H b=some u->¬zS (some u)->b≠x:=fun b u q nm z=>by subst z;rw[q]at mu;exact nm mu
 refine⟨fun b u q n _ _=>k b u (hb b n) q,fun b u q n _ _=>⟨u.slots,k b u (hb b n) q⟩,fun b u q n _=>by rw[ax<|hx b n];exact n,fun b u q _=>?_,
  fun b xs q=>by rw[ax (hm b _ q fun z=>z)];exact q,fun b u xs q=>by rw[ax (hm b _ q fun z=>z)];exact q,fun b ps q=>⟨#[],by rw[ax (hm b _ q fun z=>z),q];simp⟩⟩
 by_cases hbe:b=e;·subst hbe;exact heo
 ·exact⟨u,k b u hbe q⟩
end
def gm(h:Heap)(H:Hp):List Addr:=(DP h.objs.size).filter fun a=>(H a).isSome
def lL(h:Heap)(H:Hp):Heap:=PySem.W.hideAll h<|gm h H
theorem qT(h:Heap)(H:Hp):(lL h H).objs.size=h.objs.size:=PySem.W.hideAll_size _ _
theorem sG{h:Heap}{H:Hp}{b:Addr}{o:Obj}(e:h.get? b=some o)(n:H b=none):(lL h H).get? b=some o:=
 PySem.W.hideAll_get _ e fun hm=>by
  have q:(H b).isSome=true:=(IY.mp hm).2;rw[n]at q;simp at q
theorem vV{h:Heap}{H:Hp}{b:Addr}{o:Obj}(e:(lL h H).get? b=some o):h.get? b=some o/\H b=none:=by
 have e':h.get? b=some o:=PySem.W.of_hideAll (gm h H) e;refine⟨e',?_⟩;cases q:H b with
 |none=>rfl
 |some x=>
  have hm:b∈gm h H:=IY.mpr ⟨G7.mpr<|CP e',by simp[q]⟩;have z:(lL h H).get? b=none:=PySem.W.hideAll_none (gm h H) hm;rw[z]at e;cases e
structure Mod(K:CF)(mg:Str->Option CD)(base:Heap):Prop where
 kin:K.In base
 glob:base.Ns mainGlobals mg
 blt:∃mb,base.Ns builtinsNs mb/\∀x:Str,x≠"__name__"->mb x=bootBuiltins x
 nolimit:base.NoLimit
structure Cx where
 prog:CT
 w:D6
 K:CF
 mg:Str->Option CD
 base:Heap
 A:Dr
 N:List Str
 s₀:CH
 H₀:Hp
 env:Env
 outer:List Env
 stack:List Env
 ex:List Addr
 fn:Str->Bool
 calm:Bool
 pn:List (Addr×Obj)
 xe:CD->CH->Prop
def frs(l:List Env):List Addr:=l.filterMap (·.frame)
abbrev Cx.fs(X:Cx):List Addr:=frs X.outer
def Vis(sc:Fm)(x:Str):Prop:=sc.names.lookup x=some .local\/sc.names.lookup x=some .cell\/sc.names.lookup x=some .free
def xK(sc:Fm)(x:Str):Prop:=sc.names.lookup x=some .local\/sc.names.lookup x=some .cell
def Look(env:Env)(h:Heap)(m:Str->Option CD)(x:Str)(u:CD):Prop:=
 (env.kindOf x=some .local/\m x=some u)\/((env.kindOf x=some .cell\/env.kindOf x=some .free)/\∃c,env.cells.lookup x=some c/\h.IsCell c (some u))
structure Cx.Ok(X:Cx):Prop where
 mod:Mod X.K X.mg X.base
 kind:X.env.scope.kind=.function
 glob:X.env.globals=mainGlobals
 blt:X.env.builtins=builtinsNs
 above:X.s₀.heap.objs.size<=X.env.locals
 inj:∀x y c,X.env.cells.lookup x=some c->X.env.cells.lookup y=some c->x=y
 has:∀x,(X.env.kindOf x=some .cell\/X.env.kindOf x=some .free)->∃c,X.env.cells.lookup x=some c
 cab:∀x c,X.fn x=true->X.env.cells.lookup x=some c->X.s₀.heap.objs.size<=c
 hd:X.calm=true->X.A.handled=none
 frames:X.A.frames=some X.stack
 stk:X.stack=X.outer\/(X.stack=X.env::X.outer/\X.env.frame=some X.env.locals)
 exf:∀b∈X.ex,b≠X.env.locals/\∀x c,X.env.cells.lookup x=some c->c≠b
 bs:∀b o,X.base.get? b=some o->X.s₀.heap.get? b=some o/\X.H₀ b=none
 bsz:X.base.objs.size<=X.s₀.heap.objs.size
 noex:∀b o,X.base.get? b=some o->b∉X.ex
 exfs:∀b∈X.ex,b∉X.fs
 funs:X.s₀.heap.FunFrames X.base X.outer
 frf:∀b∈X.fs,X.H₀ b=none
structure Inv(X:Cx)(pins:List (Addr×Obj))(σ:List (Option V))(H:Hp)(s:CH):Prop where
 ok:X.Ok
 os:s.os=X.s₀.os
 bare:Hy s.gens
 base:Un X.fs X.ex X.H₀ H X.s₀.heap s.heap
 loc:∃m,s.heap.Ns X.env.locals m/\∀(i:Nat)(x:Str)(v:V),X.N[i]? =some x->σ[i]? =some (some v)->Vis X.env.scope x->∃u,RelV v u/\Look X.env s.heap m x u
 cell:∀x c,X.env.cells.lookup x=some c->∃v,s.heap.IsCell c v
 free:H X.env.locals=none
 freeC:∀x c,X.env.cells.lookup x=some c->H c=none
 pin:∀p∈X.pn++pins,s.heap.get? p.1=some p.2/\H p.1=none/\p.1≠X.env.locals/\p.1∉X.fs/\∀v,p.2.data≠.cell v
 hok:HOk X.prog X.w H s.heap
 len:σ.length=X.N.length
section
variable{X:Cx}{pins:List (Addr×Obj)}{σ:List (Option V)}{H H':Hp}{s:CH}{h':Heap}
theorem Cx.Ok.nofr(ok:X.Ok){b:Addr}{o:Obj}(e:X.base.get? b=some o):b∉X.fs:=fun hb=>by
 have:=(ok.funs.mem hb).1;rw[e]at this;cases this
theorem Inv.bs(I:Inv X pins σ H s):∀b o,X.base.get? b=some o->s.heap.get? b=some o/\H b=none:=fun b o e=>
 ⟨I.base.keep b o (I.ok.bs b o e).1 (I.ok.bs b o e).2 (I.ok.nofr e) (I.ok.noex b o e),I.base.free b o (I.ok.bs b o e).1 (I.ok.bs b o e).2 (I.ok.noex b o e)⟩
theorem Inv.bk(I:Inv X pins σ H s):∀b o,X.base.get? b=some o->s.heap.get? b=some o:=fun b o e=>(I.bs b o e).1
theorem Inv.mod(I:Inv X pins σ H s):Mod X.K X.mg X.base:=I.ok.mod
theorem Inv.kIn(I:Inv X pins σ H s):X.K.In s.heap:=I.ok.mod.kin.keeps I.bk
theorem Inv.lt(I:Inv X pins σ H s):X.env.locals<s.heap.objs.size:=let ⟨_,hn,_⟩:=I.loc;hn.lt
theorem Inv.sz(I:Inv X pins σ H s):X.s₀.heap.objs.size<=s.heap.objs.size:=E9 I.ok.above<|Fx I.lt
theorem Inv.nofs(I:Inv X pins σ H s){a:Addr}(h:s.heap.objs.size<=a):a∉X.fs:=fun hb=>by
 obtain⟨_,o,ho,_⟩:=I.ok.funs.mem hb;exact absurd (CN (CP ho)<|E9 I.sz h)<|DH _
theorem Inv.cne(I:Inv X pins σ H s):∀x c,X.env.cells.lookup x=some c->c≠X.env.locals:=fun x c e z=>by
 obtain⟨v,o,ho,hd⟩:=I.cell x c e;obtain⟨m,⟨o',es,ep,ho',hd',_⟩,_⟩:=I.loc;rw[z,ho']at ho;cases ho;rw[hd']at hd;cases hd
theorem Inv.funs(I:Inv X pins σ H s):s.heap.FunFrames X.base X.outer:=by
 have all:∀(l:List Env),(∀b∈frs l,b∈X.fs)->X.s₀.heap.FunFrames X.base l->s.heap.FunFrames X.base l:=by
  intro l
  induction l with
  |nil=>intro _ _;trivial
  |cons env r ih=>
   intro hs hl;obtain⟨hk,⟨L,o,hf,hn,ho,hd⟩,hr⟩:=hl;have hL:L∈X.fs:=hs L (by unfold frs;rw[Fi,hf];exact CZ);obtain⟨sl,e⟩:=I.base.slot L o ho (I.ok.frf L hL) hL fun z=>I.ok.exfs L z hL;exact⟨hk,⟨L,_,hf,hn,e,hd⟩,ih (fun b hb=>hs b (by unfold frs;rw[Fi,hf];exact D7 _ hb)) hr⟩
 exact all X.outer (fun _ hb=>hb) I.ok.funs
theorem Inv.stack(I:Inv X pins σ H s):s.heap.FunFrames X.base X.stack:=by
 rcases I.ok.stk with e|⟨e,hf⟩
 ·rw[e];exact I.funs
 ·rw[e];obtain⟨m,hn,_⟩:=I.loc;refine .cons (by rw[I.ok.kind];decide) hf hn ?_ I.funs;exact Hg<|E9 I.ok.bsz I.ok.above
theorem Inv.stkSub(I:Inv X pins σ H s):∀b∈frs X.stack,b∈X.env.locals::X.fs:=fun b hb=>by
 rcases I.ok.stk with e|⟨e,hf⟩
 ·rw[e]at hb;exact D7 _ hb
 ·rw[e]at hb;unfold frs at hb;rw[Fi,hf]at hb;exact hb
theorem Inv.stkFree(I:Inv X pins σ H s):∀b∈frs X.stack,H b=none:=fun b hb=>by
 rcases CW.mp (I.stkSub b hb)with e|hb;·rw[e];exact I.free
 ·obtain⟨_,o,ho,_⟩:=I.ok.funs.mem hb;exact I.base.free b o ho (I.ok.frf b hb) fun z=>I.ok.exfs b z hb
theorem Inv.step{g':Array GenState}{t':Nat}{d':Drawn}{ch:List Addr}(I:Inv X pins σ H s)
  (hch:∀b∈ch,(b∈X.ex\/X.s₀.heap.objs.size<=b)/\b≠X.env.locals/\(∀x c,X.env.cells.lookup x=some c->c≠b)/\∀p∈X.pn++pins,p.1≠b)
  (keep:∀b o,b≠X.env.locals->b∉X.fs->b∉ch->s.heap.get? b=some o->H b=none->h'.get? b=some o)
  (slot:∀b o,b≠X.env.locals->b∈X.fs->b∉ch->s.heap.get? b=some o->H b=none->∃sl,h'.get? b=some {o with slots:=sl}) (free:∀b o,b∉ch->s.heap.get? b=some o->H b=none->H' b=none)
  (there:∀b o,b∉ch->s.heap.get? b=some o->∃o',h'.get? b=some o')
  (tups:∀b xs,H b=some (.tup xs)->H' b=some (.tup xs)) (frzs:∀b o u,H b=some (.frz o u)->H' b=some (.frz o u)) (tbls:∀b ps,H b=some (.tbl ps)->∃more,H' b=some (.tbl<|ps++more))
  (ns:∀m,s.heap.Ns X.env.locals m->h'.Ns X.env.locals m) (hok:HOk X.prog X.w H' h') (hg:Hy g'):
  Inv X pins σ H' {s with heap:=h',gens:=g',drawn:=d',toks:=t'}:=by
 have neL:∀b o,X.s₀.heap.get? b=some o->b≠X.env.locals:=fun b o e=>D0<|CN (CP e) I.ok.above;have neC:∀b o,X.s₀.heap.get? b=some o->b∉X.ex->b∉ch:=fun b o e hx hb=>by
  rcases (hch b hb).1 with z|z;·exact hx z
  ·exact absurd (CN (CP e) z)<|DH _
 have cellK:∀x c,X.env.cells.lookup x=some c->∀v,s.heap.IsCell c v->h'.IsCell c v:=fun x c e v⟨o,ho,hd⟩=>by
  have nch:c∉ch:=fun z=>(hch c z).2.2.1 x c e rfl;by_cases hc:c∈X.fs
  ·obtain⟨sl,q⟩:=slot c o (I.cne x c e) hc nch ho<|I.freeC x c e;exact⟨_,q,hd⟩
  ·exact⟨o,keep c o (I.cne x c e) hc nch ho<|I.freeC x c e,hd⟩
 refine⟨I.ok,I.os,hg,⟨fun b o e n hb hx=>?_,fun b o e n hb hx=>?_,fun b o e n hx=>?_,fun b o e hx=>?_,fun b xs e=>tups b xs<|I.base.tups b xs e,fun b o xs e=>frzs b o xs<|I.base.frzs b o xs e,fun b ps e=>?_⟩,?_,fun x c e=>?_,?_,fun x c e=>?_,fun p hp=>?_,hok,I.len⟩;·exact keep b o (neL b o e) hb (neC b o e hx) (I.base.keep b o e n hb hx)<|I.base.free b o e n hx
 ·obtain⟨sl,e1⟩:=I.base.slot b o e n hb hx;obtain⟨sl',e2⟩:=slot b _ (neL b o e) hb (neC b o e hx) e1<|I.base.free b o e n hx;exact⟨sl',e2⟩
 ·obtain⟨o',e1⟩:=I.base.there b o e hx;exact free b o' (neC b o e hx) e1<|I.base.free b o e n hx
 ·obtain⟨o',e1⟩:=I.base.there b o e hx;exact there b o' (neC b o e hx) e1
 ·obtain⟨m1,e1⟩:=I.base.tbls b ps e;obtain⟨m2,e2⟩:=tbls b _ e1;exact⟨m1++m2,by rw[e2,Array.append_assoc]⟩
 ·obtain⟨m,hn,hl⟩:=I.loc;refine⟨m,ns m hn,fun i x v e1 e2 e3=>?_⟩;obtain⟨u,r,l⟩:=hl i x v e1 e2 e3;refine⟨u,r,?_⟩;rcases l with l|⟨k,c,e,z⟩
  ·exact .inl l
  ·exact .inr ⟨k,c,e,cellK x c e _ z⟩
 ·obtain⟨v,z⟩:=I.cell x c e;exact⟨v,cellK x c e v z⟩
 ·obtain⟨m,⟨o,_,_,ho,_⟩,_⟩:=I.loc;exact free _ o (fun z=>(hch _ z).2.1 rfl) ho I.free
 ·obtain⟨v,o,ho,hd⟩:=I.cell x c e;exact free c o (fun z=>(hch c z).2.2.1 x c e rfl) ho<|I.freeC x c e
 ·obtain⟨e,n,ne,nf,d⟩:=I.pin p hp;have nch:p.1∉ch:=fun z=>(hch p.1 z).2.2.2 p hp rfl;exact⟨keep p.1 p.2 ne nf nch e n,free p.1 p.2 nch e n,ne,nf,d⟩
theorem Inv.un{t':Nat}(I:Inv X pins σ H s)(u:Un X.fs [] H H' s.heap h')(hok:HOk X.prog X.w H' h'):Inv X pins σ H' {s with heap:=h',toks:=t'}:=by
 obtain⟨m,⟨o,es,ep,ho,r⟩,_⟩:=id I.loc;obtain⟨sl,hL⟩:=u.any ho I.free (by simp);exact I.step (g':=s.gens) (d':=s.drawn) (ch:=[]) (fun _ z=>nomatch z) (fun b o _ hb _ e n=>u.keep b o e n hb (by simp)) (fun b o _ hb _ e n=>u.slot b o e n hb (by simp)) (fun b o _ e n=>u.free b o e n (by simp)) (fun b o _ e=>u.there b o e (by simp)) u.tups u.frzs u.tbls (fun m' hm=>by
  obtain⟨o',es',ep',ho',r'⟩:=hm;rw[ho]at ho';cases ho';exact⟨_,es',ep',hL,r'⟩) hok I.bare
theorem Inv.call{g':Array GenState}{t':Nat}{d':Drawn}{ch:List Addr}(I:Inv X pins σ H s)(u:Un (frs X.stack) ch H H' s.heap h')(hok:HOk X.prog X.w H' h')(hg:Hy g')
  (hch:∀b∈ch,(b∈X.ex\/X.s₀.heap.objs.size<=b)/\b≠X.env.locals/\(∀x c,X.env.cells.lookup x=some c->c≠b)/\∀p∈X.pn++pins,p.1≠b):
  Inv X pins σ H' {s with heap:=h',gens:=g',drawn:=d',toks:=t'}:=by
 obtain⟨m,⟨o,es,ep,ho,r⟩,_⟩:=id I.loc;obtain⟨sl,hL⟩:=u.any ho I.free fun z=>(hch _ z).2.1 rfl;exact I.step (ch:=ch) hch (fun b o hL hb hc e n=>u.keep b o e n (fun z=>(CW.mp<|I.stkSub b z).elim hL hb) hc) (fun b o _ _ hc e n=>u.any e n hc) (fun b o hc e n=>u.free b o e n hc) (fun b o hc e=>u.there b o e hc) u.tups u.frzs u.tbls (fun m' hm=>by
  obtain⟨o',es',ep',ho',r'⟩:=hm;rw[ho]at ho';cases ho';exact⟨_,es',ep',hL,r'⟩) hok hg
theorem Inv.turned{t':Nat}{it:Addr}(I:Inv X pins σ H s)(k:∀b o,b≠it->s.heap.get? b=some o->h'.get? b=some o)(hn:H it=none)(hL:it≠X.env.locals)
  (h1:it∈X.ex\/X.s₀.heap.objs.size<=it) (h2:∀x c,X.env.cells.lookup x=some c->c≠it) (h3:∀p∈X.pn++pins,p.1≠it):Inv X pins σ H {s with heap:=h',toks:=t'}:=by
 have nit:∀b u,H b=some u->b≠it:=fun b u e z=>by rw[z,hn]at e;cases e
 refine I.step (g':=s.gens) (d':=s.drawn) (ch:=[it]) (fun b hb=>?_) (fun b o _ _ hc e _=>k b o (fun z=>hc (by simp[z])) e) (fun b o _ _ hc e _=>⟨o.slots,k b o (fun z=>hc (by simp[z])) e⟩) (fun _ _ _ _ n=>n)
  (fun b o hc e=>⟨o,k b o (fun z=>hc (by simp[z])) e⟩) (fun _ _ e=>e) (fun _ _ _ e=>e) (fun b ps e=>⟨#[],by rw[e];simp⟩) (fun m hm=>?_) (fun b u e=>?_) I.bare
 ·have e:b=it:=by simpa using hb
  subst e;exact⟨h1,hL,h2,h3⟩
 ·obtain⟨o,es,ep,ho,r⟩:=hm;exact⟨o,es,ep,k _ o (F3 hL) ho,r⟩
 ·refine(I.hok b u e).stay (fun c v hc q=>k c v ?_ q) (fun _ q=>q) fun _ _ q=>q;rcases hc with z|z
  ·rw[z];exact nit b u e
  ·exact nit c _ z
theorem Inv.tok(I:Inv X pins σ H s)(t:Nat):Inv X pins σ H {s with toks:=t}:=I.un (h':=s.heap) (t':=t) Un.refl I.hok
theorem Inv.kept{t':Nat}(I:Inv X pins σ H s)(k:∀b u,s.heap.get? b=some u->h'.get? b=some u):Inv X pins σ H {s with heap:=h',toks:=t'}:=I.un (Un.kept k)<|I.hok.kept k
theorem Inv.laid{a:Addr}{o:HO}{t':Nat}(I:Inv X pins σ H s)(k:∀b u,s.heap.get? b=some u->h'.get? b=some u)(hp:s.heap.objs.size<=a)(new:ObjOk X.prog X.w (cI H a o) h' a o):
  Inv X pins σ (cI H a o) {s with heap:=h',toks:=t'}:=I.un (Un.laid k hp<|I.hok.fresh hp)<|I.hok.laid k hp new
theorem Inv.write{x e:Addr}{o:HO}{t':Nat}(I:Inv X pins σ H s)(mu:zS (H x))(he:e=x\/H e=some (.own x))(k:∀b u,b≠e->s.heap.get? b=some u->h'.get? b=some u)(heo:∃u,h'.get? e=some u)
  (new:ObjOk X.prog X.w (cI H x o) h' x o):Inv X pins σ (cI H x o) {s with heap:=h',toks:=t'}:=I.un (Un.write mu he k heo)<|I.hok.write mu he k heo new
theorem Inv.weak{σ':List (Option V)}(I:Inv X pins σ H s)(hl:σ'.length=σ.length)(w:∀(i:Nat)v,σ'[i]? =some (some v)->σ[i]? =some (some v)):Inv X pins σ' H s:=
 ⟨I.ok,I.os,I.bare,I.base,let ⟨m,hn,hl'⟩:=I.loc;⟨m,hn,fun i x v e1 e2 e3=>hl' i x v e1 (w i v e2) e3⟩,I.cell,I.free,I.freeC,I.pin,I.hok,hl.trans I.len⟩
theorem Inv.pins_of{pins':List (Addr×Obj)}(I:Inv X pins σ H s)(h:∀p∈pins',s.heap.get? p.1=some p.2/\H p.1=none/\p.1≠X.env.locals/\p.1∉X.fs/\∀v,p.2.data≠.cell v):Inv X pins' σ H s:=
 ⟨I.ok,I.os,I.bare,I.base,I.loc,I.cell,I.free,I.freeC,fun p hp=>(Ff.mp hp).elim (fun z=>I.pin p<|EI _ z) (h p),I.hok,I.len⟩
theorem jj{N:List Str}(hN:N.Nodup){i j:Nat}{x:Str}(a:N[i]? =some x)(b:N[j]? =some x):i=j:=by
 obtain⟨h1,e1⟩:=CL.mp a;obtain⟨h2,e2⟩:=CL.mp b;exact(List.getElem_inj hN).mp (e1.trans e2.symm)
theorem kX{M:Le}{A:Dr}{E:CD->CH->Prop}{i:Nat}{x:Str}{v:V}{u:CD}{Q:Unit->CH->Prop}(I:Inv X pins σ H s)(hN:X.N.Nodup)(hi:X.N[i]? =some x)(hx:xK X.env.scope x)(r:RelV v u)
  (h:∀s',Inv X pins (σ.set i<|some v) H s'->(∃a,D5 a s.heap s'.heap/\(a=X.env.locals\/X.env.cells.lookup x=some a))->Q () s') (hf:X.fn x=true\/X.env.scope.names.lookup x=some .local:=by first|exact .inl rfl|exact .inr rfl|assumption):wpAny M A (storeName X.env x u) Q E s:=by
 obtain⟨m,hn,hl⟩:=id I.loc;have hcls:(X.env.scope.kind== .class||(X.env.scope.kind== .module&&X.env.locals != X.env.globals))=false:=by rw[I.ok.kind];rfl
 have hiσ:i<σ.length:=by rw[I.len];exact(CL.mp hi).1
 have cne:=I.cne;have tracked:∀{a:Addr}{h':Heap},(∃o,s.heap.get? a=some o/\H a=none)->D5 a s.heap h'->HOk X.prog X.w H h':=fun{a h'}ha hs b ob e=>by
  obtain⟨_,_,hfree⟩:=ha;refine(I.hok b ob e).stay (fun c w' hc q=>(hs.2 c ?_).trans q) (fun _ q=>q) fun _ _ q=>q;rintro rfl;rcases hc with rfl|hc
  ·rw[hfree]at e;cases e
  ·rw[hfree]at hc;cases hc
 rcases hx with hk|hk
 ·refine wpAny_storeName_local hk hn (fun h' hn' hs=>?_) hcls;obtain⟨oL,_,_,hoL,_⟩:=id hn;refine h _ ⟨I.ok,I.os,I.bare,⟨fun b o e n hb hx=>?_,fun b o e n hb hx=>?_,I.base.free,fun b o e hx=>?_,I.base.tups,I.base.frzs,I.base.tbls⟩,⟨_,hn',fun j y v' e1 e2 e3=>?_⟩,fun y c e=>?_,I.free,I.freeC,fun p hp=>?_,tracked ⟨oL,hoL,I.free⟩ hs,by simpa using I.len⟩ ⟨_,hs,.inl rfl⟩;·exact(hs.2 b<|D0<|CN (CP e) I.ok.above).trans (I.base.keep b o e n hb hx)
  ·obtain⟨sl,e1⟩:=I.base.slot b o e n hb hx;exact⟨sl,(hs.2 b<|D0<|CN (CP e) I.ok.above).trans e1⟩
  ·obtain⟨o',e1⟩:=I.base.there b o e hx;exact⟨o',(hs.2 b<|D0<|CN (CP e) I.ok.above).trans e1⟩
  ·by_cases hj:j=i
   ·subst hj;rw[hi]at e1;cases e1;rw[FR hiσ]at e2;cases e2;exact⟨u,r,.inl ⟨hk,by simp⟩⟩
   ·rw[Hh<|F3 hj]at e2;obtain⟨u',r',q⟩:=hl j y v' e1 e2 e3;refine⟨u',r',?_⟩;rcases q with⟨k,e⟩|⟨k,c,e,z⟩
    ·refine .inl ⟨k,?_⟩;have:y≠x:=fun e=>hj<|jj hN e1<|e▸hi;simp[this,e]
    ·exact .inr ⟨k,c,e,z.sameBut hs<|cne y c e⟩
  ·obtain⟨w',z⟩:=I.cell y c e;exact⟨w',z.sameBut hs<|cne y c e⟩
  ·obtain⟨e,n,ne,nf,d⟩:=I.pin p hp;exact⟨(hs.2 p.1 ne).trans e,n,ne,nf,d⟩
 ·have hfn:X.fn x=true:=by
   rcases hf with z|z;·exact z
   ·rw[z]at hk;cases hk
  obtain⟨c,hc⟩:=I.ok.has x<|.inl hk;obtain⟨w',z⟩:=I.cell x c hc;refine wpAny_storeName_cell I.ok.kind hk hc z<|fun h' hc' hs=>?_;obtain⟨oc,hoc,hocd⟩:=id z;refine h {s with heap:=h'} ⟨I.ok,I.os,I.bare,⟨fun b o e n hb hx=>?_,fun b o e n hb hx=>?_,I.base.free,fun b o e hx=>?_,I.base.tups,I.base.frzs,I.base.tbls⟩,⟨m,hn.sameBut hs<|F3<|cne x c hc,fun j y v' e1 e2 e3=>?_⟩,fun y c' e=>?_,I.free,I.freeC,fun p hp=>?_,tracked ⟨oc,hoc,I.freeC x c hc⟩ hs,by simpa using I.len⟩ ⟨c,hs,.inr hc⟩;·exact(hs.2 b<|D0<|CN (CP e)<|I.ok.cab x c hfn hc).trans (I.base.keep b o e n hb hx)
  ·obtain⟨sl,e1⟩:=I.base.slot b o e n hb hx;exact⟨sl,(hs.2 b<|D0<|CN (CP e)<|I.ok.cab x c hfn hc).trans e1⟩
  ·obtain⟨o',e1⟩:=I.base.there b o e hx;exact⟨o',(hs.2 b<|D0<|CN (CP e)<|I.ok.cab x c hfn hc).trans e1⟩
  ·by_cases hj:j=i
   ·subst hj;rw[hi]at e1;cases e1;rw[FR hiσ]at e2;cases e2;exact⟨u,r,.inr ⟨.inl hk,c,hc,hc'⟩⟩
   ·rw[Hh<|F3 hj]at e2;obtain⟨u',r',q⟩:=hl j y v' e1 e2 e3;refine⟨u',r',?_⟩;rcases q with q|⟨k,c',e,z'⟩
    ·exact .inl q
    ·refine .inr ⟨k,c',e,z'.sameBut hs ?_⟩;rintro rfl;exact hj<|jj hN e1<|I.ok.inj _ _ _ e hc▸hi
  ·by_cases hcc:c'=c;·subst hcc;exact⟨_,hc'⟩
   ·obtain⟨w2,z2⟩:=I.cell y c' e;exact⟨w2,z2.sameBut hs hcc⟩
  ·obtain⟨e,n,ne,nf,d⟩:=I.pin p hp;refine⟨(hs.2 p.1 ?_).trans e,n,ne,nf,d⟩;intro q;rw[q,hoc]at e;have q':oc=p.2:=Dp e;exact d w' (by rw[<-q'];exact hocd)
theorem gV{M:Le}{A:Dr}{E:CD->CH->Prop}{i:Nat}{x:Str}{v:V}{u:CD}{Q:Unit->CH->Prop}(I:Inv X pins σ H s)(hN:X.N.Nodup)(hi:X.N[i]? =some x)(hx:xK X.env.scope x)(r:RelV v u)
  (h:∀s',Inv X pins (σ.set i<|some v) H s'->Q () s') (hf:X.fn x=true\/X.env.scope.names.lookup x=some .local:=by first|exact .inl rfl|exact .inr rfl|assumption):wpAny M A (storeName X.env x u) Q E s:=
 kX I hN hi hx r (fun s' I' _=>h s' I') hf
theorem Inv.call'{s':CH}{ch:List Addr}(I:Inv X pins σ H s)(ho:s'.os=s.os)(u:Un (frs X.stack) ch H H' s.heap s'.heap)(hok:HOk X.prog X.w H' s'.heap)(hg:Hy s'.gens)
  (hch:∀b∈ch,(b∈X.ex\/X.s₀.heap.objs.size<=b)/\b≠X.env.locals/\(∀x c,X.env.cells.lookup x=some c->c≠b)/\∀p∈X.pn++pins,p.1≠b):Inv X pins σ H' s':=by
 obtain⟨h',g',d',t',o'⟩:=s';have e:o'=s.os:=ho;subst e;exact I.call (g':=g') (t':=t') (d':=d') u hok hg hch
end
abbrev XK:=CD->Option Addr->Hp->Prop
abbrev St:=List<|Option V
abbrev VK:=V->Hp->Prop
abbrev TE:=St->Hp->VK->Prop
abbrev TT:=St->Hp->(Bool->Hp->Prop)->Prop
abbrev TA:=St->Hp->(List V->Hp->Prop)->Prop
structure Ends where
 nx:St->Hp->Prop
 rt:VK
 bk:St->Hp->Prop:=fun _ _=>False
 ct:St->Hp->Prop:=fun _ _=>False
abbrev TS:=Ends->St->Hp->Prop
def EP(X:Cx)(pins:List (Addr×Obj))(σ:St)(Q:VK)(u:CD)(s':CH):Prop:=∃v H',Inv X pins σ H' s'/\RelV v u/\Q v H'
def TP(X:Cx)(pins:List (Addr×Obj))(σ:St)(Q:Bool->Hp->Prop)(b:Bool)(s':CH):Prop:=∃H',Inv X pins σ H' s'/\Q b H'
def AP(X:Cx)(pins:List (Addr×Obj))(σ:St)(Q:List V->Hp->Prop)(us:List CD)(s':CH):Prop:=∃vs H',Inv X pins σ H' s'/\Vals vs us/\Q vs H'
def SP(X:Cx)(pins:List (Addr×Obj))(D:Ends)(f:Flow)(s':CH):Prop:=
 match f with
 | .next=>∃σ' H',Inv X pins σ' H' s'/\D.nx σ' H'
 | .brk=>∃σ' H',Inv X pins σ' H' s'/\D.bk σ' H'
 | .cont=>∃σ' H',Inv X pins σ' H' s'/\D.ct σ' H'
 | .ret u=>∃v σ' H',Inv X pins σ' H' s'/\RelV v u/\D.rt v H'
def PE(X:Cx)(e:Expr)(t:TE):Prop:=
 ∀(pins:List (Addr×Obj))(s:CH)(σ:St)(H:Hp)(Q:VK),Inv X pins σ H s->t σ H Q->wpAny (model X.prog X.w) X.A (eval e X.env) (EP X pins σ Q) X.xe s
def PT(X:Cx)(e:Expr)(t:TT):Prop:=
 ∀(pins:List (Addr×Obj))(s:CH)(σ:St)(H:Hp)(Q:Bool->Hp->Prop),Inv X pins σ H s->t σ H Q->wpAny (model X.prog X.w) X.A (isTrue e X.env<|eval e X.env) (TP X pins σ Q) X.xe s
def PW(X:Cx)(e:Expr)(t:TT):Prop:=
 ∀(whole:Sem CD)(pins:List (Addr×Obj))(s:CH)(σ:St)(H:Hp)(Q:Bool->Hp->Prop),Inv X pins σ H s->t σ H Q->wpAny (model X.prog X.w) X.A (isTrue e X.env whole) (TP X pins σ Q) X.xe s
theorem PW.pt{X:Cx}{e:Expr}{t:TT}(h:PW X e t):PT X e t:=h _
def PA(X:Cx)(es:List Expr)(t:TA):Prop:=
 ∀(pos:Pos)(pins:List (Addr×Obj))(s:CH)(σ:St)(H:Hp)(Q:List V->Hp->Prop),Inv X pins σ H s->t σ H Q->wpAny (model X.prog X.w) X.A (spliced<|backTo pos<|starEach es X.env) (AP X pins σ Q) X.xe s
def PS(X:Cx)(st:Stmt)(t:TS):Prop:=
 ∀(pins:List (Addr×Obj))(s:CH)(σ:St)(H:Hp)(D:Ends),Inv X pins σ H s->t D σ H->wpAny (model X.prog X.w) X.A (exec st X.env) (SP X pins D) X.xe s
def PSs(X:Cx)(st:List Stmt)(t:TS):Prop:=
 ∀(pins:List (Addr×Obj))(s:CH)(σ:St)(H:Hp)(D:Ends),Inv X pins σ H s->t D σ H->wpAny (model X.prog X.w) X.A (execs st X.env) (SP X pins D) X.xe s
theorem bF{α:Type}{t:Sem α}{Q Q':α->CH->Prop}{M:Le}{A:Dr}{E:CD->CH->Prop}{s:CH}(h:wpAny M A t Q E s)(hQ:∀a s,Q a s->Q' a s):wpAny M A t Q' E s:=DW h hQ fun _ _ x=>x
section
variable{X:Cx}
def bL(i:Nat):TE:=fun σ H Q=>∃v,σ[i]? =some (some v)/\Q v H
def tC(v:V):TE:=fun _ H Q=>Q v H
theorem yi{i:Nat}{x:Str}{pos:Pos}(hN:X.N[i]? =some x)(hv:Vis X.env.scope x)(hd:(x==("__debug__" :Str))=false:=by decide)(hcd:(x==("__classdict__" :Str))=false:=by decide):PE X (.Name x pos) (bL i):=by
 intro pins s σ H Q I h;obtain⟨v,e,h⟩:=h;obtain⟨m,hn,hl⟩:=I.loc;obtain⟨u,r,l⟩:=hl i x v hN e hv;have fin:EP X pins σ Q u s:=⟨v,H,I,r,h⟩
 rcases l with⟨hk,hm⟩|⟨hk,c,hc,hcell⟩
 ·exact Lf (Jl I.ok.kind hk hn hm fin) hd
 ·rcases hk with hk | hk;·exact Lf (JB I.ok.kind hk hc hcell fin) hd
  ·exact Lf (wpAny_loadName_free I.ok.kind hk hc hcell fin hcd) hd
theorem ae{i j pos}:PE X (.Constant (.int i) j pos) (tC<|.int i):=fun _ _ _ H _ I h=>wpAny_Constant_int ⟨.int i,H,I.tok _,⟨_,rfl⟩,h⟩
theorem dA{b j pos}:PE X (.Constant (.bool b) j pos) (tC<|.bl b):=fun _ _ _ H _ I h=>Constant_bool ⟨.bl b,H,I,rfl,h⟩
theorem yj{j pos}:PE X (.Constant .none j pos) (tC .non):=fun _ _ _ H _ I h=>Constant_none ⟨.non,H,I,rfl,h⟩
theorem aD{x j pos}:PE X (.Constant (.str x) j pos) (tC<|.str x):=fun _ _ _ H _ I h=>Calls.Constant_str ⟨.str x,H,I.tok _,⟨_,rfl⟩,h⟩
def Gl(X:Cx)(x:Str):Prop:=X.env.kindOf x=some .globalImplicit
theorem gW{E:CD->CH->Prop}{pins:List (Addr×Obj)}{s:CH}{σ:St}{H:Hp}{x:Str}{u:CD}{pos:Pos}{Q:CD->CH->Prop}(I:Inv X pins σ H s)(hg:Gl X x)(hm:X.mg x=some u)(h:Q u s)
  (hd:(x==("__debug__" :Str))=false:=by decide):wpAny (model X.prog X.w) X.A (eval (.Name x pos) X.env) Q E s:=
 HC I.ok.kind hg (Calls.loadGlobal_global (by rw[I.ok.glob];exact I.mod.glob.keeps I.bk) hm h) hd
theorem fh{E:CD->CH->Prop}{pins:List (Addr×Obj)}{s:CH}{σ:St}{H:Hp}{x:Str}{u:CD}{pos:Pos}{Q:CD->CH->Prop}(I:Inv X pins σ H s)(hg:Gl X x)(hm:X.mg x=none)(hv:bootBuiltins x=some u)(h:Q u s)
  (hn:x≠"__name__":=by decide) (hd:(x==("__debug__" :Str))=false:=by decide):wpAny (model X.prog X.w) X.A (eval (.Name x pos) X.env) Q E s:=by
 obtain⟨mb,h1,h2⟩:=I.mod.blt;exact HC I.ok.kind hg (Calls.loadGlobal_builtin (by rw[I.ok.glob];exact I.mod.glob.keeps I.bk) hm (by rw[I.ok.blt];exact h1.keeps I.bk) ((h2 x hn).trans hv) h) hd
theorem bb{x:Str}{v:V}{u:CD}{pos:Pos}(hg:Gl X x)(hm:X.mg x=some u)(r:RelV v u)(hd:(x==("__debug__" :Str))=false:=by decide):PE X (.Name x pos) (tC v):=
 fun _ _ _ H _ I h=>gW I hg hm ⟨v,H,I,r,h⟩ hd
theorem cY{x:Str}{v:V}{u:CD}{pos:Pos}(hg:Gl X x)(hm:X.mg x=none)(hv:bootBuiltins x=some u)(r:RelV v u)(hn:x≠"__name__":=by decide)(hd:(x==("__debug__" :Str))=false:=by decide):PE X (.Name x pos) (tC v):=
 fun _ _ _ H _ I h=>fh I hg hm hv ⟨v,H,I,r,h⟩ hn hd
variable{a b:Expr}{ta tb:TE}{pos:Pos}
def tB(t:TE):TT:=fun σ H Q=>t σ H fun x H1=>∃c,x=.bl c/\Q c H1
theorem cK{e:Expr}{t:TE}(h:PE X e t)(he:∀whole,isTrue e X.env whole=(do let v <-whole;standAt e.pos;holding [v] (truthy v)):=by intro _;rfl):PT X e (tB t):=by
 intro pins s σ H Q I hw;refine isTrue_plain (bF (h pins s σ H _ I hw) fun v s1⟨x,H1,I1,r1,q1⟩=>?_)<|he _;obtain⟨d,rfl,q⟩:=q1;cases r1;exact Fy ⟨H1,I1,q⟩
variable{tA tB':TT}{rest:List Expr}
def cB(t u:TT):TT:=fun σ H Q=>t σ H fun c H1=>if c=true then u σ H1 Q else Q false H1
def fP(t u:TT):TT:=fun σ H Q=>t σ H fun c H1=>if c=true then Q true H1 else u σ H1 Q
def cC(t:TT):TT:=fun σ H Q=>t σ H fun c H1=>Q (!c) H1
theorem eN(ha:PT X a tA):PW X (.BoolOp .And [a] pos) tA:=by
 intro wh pins s σ H Q I h;refine isTrue_and<|bF (ha pins s σ H Q I h) fun c s1 e=>?_;cases c with
 |true=>exact isTrue_and_nil e
 |false=>exact e
theorem lM(ha:PT X a tA):PW X (.BoolOp .Or [a] pos) tA:=by
 intro wh pins s σ H Q I h;refine isTrue_or<|bF (ha pins s σ H Q I h) fun c s1 e=>?_;cases c with
 |false=>exact isTrue_or_nil e
 |true=>exact e
theorem fj(ha:PT X a tA)(hb:PW X (.BoolOp .And (b::rest) pos) tB'):PW X (.BoolOp .And (a::b::rest) pos) (cB tA tB'):=by
 intro wh pins s σ H Q I h;refine isTrue_and<|bF (ha pins s σ H _ I h) fun c s1 zz=>?_;obtain⟨H1,I1,q1⟩:=zz;cases c with
 |true=>exact hb wh pins s1 σ H1 Q I1 q1
 |false=>exact⟨H1,I1,q1⟩
theorem mP(ha:PT X a tA)(hb:PW X (.BoolOp .Or (b::rest) pos) tB'):PW X (.BoolOp .Or (a::b::rest) pos) (fP tA tB'):=by
 intro wh pins s σ H Q I h;refine isTrue_or<|bF (ha pins s σ H _ I h) fun c s1 zz=>?_;obtain⟨H1,I1,q1⟩:=zz;cases c with
 |true=>exact⟨H1,I1,q1⟩
 |false=>exact hb wh pins s1 σ H1 Q I1 q1
theorem gH(ha:PT X a tA):PT X (.UnaryOp .Not a pos) (cC tA):=by
 intro pins s σ H Q I h;exact isTrue_not<|ha pins s σ H (fun c H1=>Q (!c) H1) I h
def bA(ta tb:TE):TE:=fun σ H Q=>ta σ H fun x H1=>∃c,x=.bl c/\if c=true then tb σ H1 Q else Q (.bl false) H1
def cD(ta tb:TE):TE:=fun σ H Q=>ta σ H fun x H1=>∃c,x=.bl c/\if c=true then Q (.bl true) H1 else tb σ H1 Q
def bB(ta:TE):TE:=fun σ H Q=>ta σ H fun x H1=>∃c,x=.bl c/\Q (.bl<|!c) H1
theorem jk{op}{t:TE}(h:PE X a t):PE X (.BoolOp op [a] pos) t:=fun pins s σ H Q I hw=>BoolOp_one<|h pins s σ H Q I hw
theorem jl(ha:PE X a ta)(hb:PE X (.BoolOp .And (b::rest) pos) tb):PE X (.BoolOp .And (a::b::rest) pos) (bA ta tb):=by
 intro pins s σ H Q I h;refine BoolOp_and<|bF (ha pins s σ H _ I h) fun v s1 zz=>?_;obtain⟨x,H1,I1,r1,q1⟩:=zz;obtain⟨c,rfl,q1⟩:=q1;cases r1;refine Fy ?_;cases c with
 |true=>exact hb pins s1 σ H1 Q I1 q1
 |false=>exact⟨.bl false,H1,I1,rfl,q1⟩
theorem zT(ha:PE X a ta)(hb:PE X (.BoolOp .Or (b::rest) pos) tb):PE X (.BoolOp .Or (a::b::rest) pos) (cD ta tb):=by
 intro pins s σ H Q I h;refine BoolOp_or<|bF (ha pins s σ H _ I h) fun v s1 zz=>?_;obtain⟨x,H1,I1,r1,q1⟩:=zz;obtain⟨c,rfl,q1⟩:=q1;cases r1;refine Fy ?_;cases c with
 |false=>exact hb pins s1 σ H1 Q I1 q1
 |true=>exact⟨.bl true,H1,I1,rfl,q1⟩
theorem oo(ha:PE X a ta):PE X (.UnaryOp .Not a pos) (bB ta):=by
 intro pins s σ H Q I h;refine UnaryOp_<|bF (ha pins s σ H _ I h) fun v s1 zz=>?_;obtain⟨x,H1,I1,r1,q1⟩:=zz;obtain⟨c,rfl,q1⟩:=q1;cases r1;exact not_of<|Fy ⟨.bl<|!c,H1,I1,rfl,q1⟩
def fQ(t:TT)(ta tb:TE):TE:=fun σ H Q=>t σ H fun c H1=>if c=true then ta σ H1 Q else tb σ H1 Q
theorem fU{c:Expr}(hc:PT X c tA)(ha:PE X a ta)(hb:PE X b tb):PE X (.IfExp c a b pos) (fQ tA ta tb):=by
 intro pins s σ H Q I h;refine wpAny_IfExp<|bF (hc pins s σ H _ I h) fun d s1 zz=>?_;obtain⟨H1,I1,q1⟩:=zz;cases d with
 |true=>exact ha pins s1 σ H1 Q I1 q1
 |false=>exact hb pins s1 σ H1 Q I1 q1
end
def SqL(K:CF)(H:Hp)(a:Addr)(xs:List V):Prop:=
 Rd H a (.lst xs)\/
  ∃(o:Obj)(its:Array CD)(n:Nat),K.lookup a=some o/\o.cls=.type "list"/\o.dict=none/\o.data=.seq its n/\its.size<=sizeLine/\Vals xs its.toList
def SqT(K:CF)(H:Hp)(a:Addr)(xs:List V):Prop:=
 Rd H a (.tup xs)\/
  ∃(o:Obj)(its:Array CD)(n:Nat),K.lookup a=some o/\(o.cls=.type "tuple"/\o.dict=none)/\o.data=.seq its n/\its.size<=sizeLine/\Vals xs its.toList
def Bt:CD->Option V
 | .none=>some .non
 | .bool b=>some<|.bl b
 | .int i _=>some<|.int i
 | .str x _=>some<|.str x
 | .bytes b _=>some<|.byt b
 | .float b _=>some<|.flt b
 | .ref a=>some<|.ref a
 | .type n=>some<|.ty n
 |_=>none
theorem RelV.abs{x:V}{u:CD}(r:RelV x u):Bt u=some x:=by
 cases x with
 |non=>cases r;rfl
 |bl _=>cases r;rfl
 |int _=>obtain⟨t,rfl⟩:=r;rfl
 |str _=>obtain⟨t,rfl⟩:=r;rfl
 |byt _=>obtain⟨t,rfl⟩:=r;rfl
 |flt _=>obtain⟨t,rfl⟩:=r;rfl
 |ref _=>cases r;rfl
 |ty _=>cases r;rfl
theorem RelV.inj{x y:V}{u:CD}(r:RelV x u)(q:RelV y u):x=y:=Dp<|r.abs.symm.trans q.abs
theorem Vals.inj:∀{xs ys:List V}{us:List CD},Vals xs us->Vals ys us->xs=ys
 |_,_,_,.nil,.nil=>rfl
 |_,_,_,.cons r t,.cons r' t'=>by rw[r.inj r',Vals.inj t t']
section
variable{X:Cx}{pins:List (Addr×Obj)}{σ:St}{H:Hp}{s:CH}{a:Addr}{xs ys:List V}
theorem SqL.of{K:CF}(h:H a=some (.lst xs)):SqL K H a xs:=.inl<|.inl h
theorem SqT.of{K:CF}(h:H a=some (.tup xs)):SqT K H a xs:=.inl<|.inl h
theorem Inv.list(I:Inv X pins σ H s)(h:SqL X.K H a xs):∃its:List CD,Vals xs its/\PlainL s.heap a its.toArray/\xs.length<=sizeLine:=by
 rcases h with h|⟨o,its,n,hk,hc,hd,hs,hz,r⟩
 ·obtain⟨z,its,n,r,e⟩:=h.ok I.hok;exact⟨its,r,⟨_,n,e,rfl,rfl,rfl⟩,z⟩
 ·refine⟨its.toList,r,⟨o,n,I.kIn a o hk,hc,hd,by simpa using hs⟩,?_⟩;have e:=r.length;simp only[Em]at e;omega
theorem Inv.tuple(I:Inv X pins σ H s)(h:SqT X.K H a xs):∃its:List CD,Vals xs its/\MW s.heap a its.toArray/\xs.length<=sizeLine:=by
 rcases h with h|⟨o,its,n,hk,hc,hs,hz,r⟩
 ·obtain⟨z,its,r,p⟩:=h.ok I.hok;exact⟨its,r,p.tup,z⟩
 ·refine⟨its.toList,r,⟨o,I.kIn a o hk,hc.1,n,by simpa using hs⟩,?_⟩;have e:=r.length;simp only[Em]at e;omega
theorem Inv.list_inj(I:Inv X pins σ H s)(h:SqL X.K H a xs)(h':SqL X.K H a ys):xs=ys:=by
 obtain⟨its,r,⟨o,n,e,_,_,d⟩,_⟩:=I.list h;obtain⟨its',r',⟨o',n',e',_,_,d'⟩,_⟩:=I.list h';rw[e]at e';cases e';rw[d]at d';injection d' with d1 _;have:its=its':=by simpa using congrArg Md d1
 subst this;exact r.inj r'
theorem Inv.tuple_inj(I:Inv X pins σ H s)(h:SqT X.K H a xs)(h':SqT X.K H a ys):xs=ys:=by
 obtain⟨its,r,⟨o,e,_,n,d⟩,_⟩:=I.tuple h;obtain⟨its',r',⟨o',e',_,n',d'⟩,_⟩:=I.tuple h';rw[e]at e';cases e';rw[d]at d';injection d' with d1 _;have:its=its':=by simpa using congrArg Md d1
 subst this;exact r.inj r'
end
abbrev Cx.wish(X:Cx)(E:CD->CH->Prop):Cx:={X with xe:=E}
abbrev Cx.nox(X:Cx):Cx:=X.wish fun _ _=>False
theorem Cx.Ok.wish{X:Cx}(ok:X.Ok)(E:CD->CH->Prop):(X.wish E).Ok:=
 ⟨ok.mod,ok.kind,ok.glob,ok.blt,ok.above,ok.inj,ok.has,ok.cab,ok.hd,ok.frames,ok.stk,ok.exf,ok.bs,ok.bsz,ok.noex,ok.exfs,ok.funs,ok.frf⟩
theorem Cx.Ok.unwish{X:Cx}{E:CD->CH->Prop}(ok:(X.wish E).Ok):X.Ok:=
 ⟨ok.mod,ok.kind,ok.glob,ok.blt,ok.above,ok.inj,ok.has,ok.cab,ok.hd,ok.frames,ok.stk,ok.exf,ok.bs,ok.bsz,ok.noex,ok.exfs,ok.funs,ok.frf⟩
section
variable{X:Cx}{pins:List (Addr×Obj)}{σ:St}{H:Hp}{s:CH}{E:CD->CH->Prop}
theorem Inv.wish(I:Inv X pins σ H s)(E:CD->CH->Prop):Inv (X.wish E) pins σ H s:=⟨I.ok.wish E,I.os,I.bare,I.base,I.loc,I.cell,I.free,I.freeC,I.pin,I.hok,I.len⟩
theorem Inv.unwish(I:Inv (X.wish E) pins σ H s):Inv X pins σ H s:=⟨I.ok.unwish,I.os,I.bare,I.base,I.loc,I.cell,I.free,I.freeC,I.pin,I.hok,I.len⟩
theorem SP.unwish{D:Ends}{f:Flow}{s':CH}(h:SP (X.wish E) pins D f s'):SP X pins D f s':=by
 cases f with
 |next=>obtain⟨σ',H',I,q⟩:=h;exact⟨σ',H',I.unwish,q⟩
 |brk=>obtain⟨σ',H',I,q⟩:=h;exact⟨σ',H',I.unwish,q⟩
 |cont=>obtain⟨σ',H',I,q⟩:=h;exact⟨σ',H',I.unwish,q⟩
 |ret u=>obtain⟨v,σ',H',I,r,q⟩:=h;exact⟨v,σ',H',I.unwish,r,q⟩
theorem PSs.nox{st:List Stmt}{t:TS}(h:PSs X.nox st t):PSs X st t:=fun pins s σ H D I hw=>
 DW (h pins s σ H D (I.wish _) hw) (fun _ _ q=>q.unwish) fun _ _ z=>EO z
end
section
variable{X:Cx}{st:Stmt}{rest:List Stmt}{t u:TS}{e:Expr}{te:TE}{pos:Pos}
def aL:TS:=fun D σ H=>D.nx σ H
def fk(t u:TS):TS:=fun D σ H=>t {D with nx:=u D} σ H
theorem aS:PSs X [] aL:=fun _ _ σ H _ I h=>Gk ⟨σ,H,I,h⟩
theorem af(h1:PS X st t)(h2:PSs X rest u):PSs X (st::rest) (fk t u):=by
 intro pins s σ H D I h;refine Ky<|bF (h1 pins s σ H {D with nx:=u D} I h) fun f s1 q=>?_;cases f with
 |next=>
  obtain⟨σ',H',I',q⟩:=q;exact h2 pins s1 σ' H' D I' q
 |ret v=>exact q
 |brk=>exact q
 |cont=>exact q
theorem ag(h1:PS X st t):PSs X [st] t:=by
 intro pins s σ H D I h;refine Ky<|bF (h1 pins s σ H D I h) fun f s1 q=>?_;cases f with
 |next=>exact Gk q
 |ret v=>exact q
 |brk=>exact q
 |cont=>exact q
theorem Inv.quiet{pins:List (Addr×Obj)}{σ:St}{H:Hp}{s:CH}(I:Inv X pins σ H s):interactive X.env=false:=by simp[interactive,I.ok.kind]
def bt(te:TE):TS:=fun D σ H=>te σ H fun _ H1=>D.nx σ H1
theorem fo(he:PE X e te)(hs:swapsWith e none pos.line X.env=pure false:=by rfl):PS X (.Expr e pos) (bt te):=by
 intro pins s σ H D I h;exact wpAny_Expr_any (bF (he pins s σ H _ I h) fun v s1⟨x,H1,I1,r1,q1⟩=>⟨σ,H1,I1,q1⟩) I.quiet hs
def bZ(te:TE):TS:=fun D σ H=>te σ H D.rt
theorem ay(he:PE X e te):PS X (.Return (some e) pos) (bZ te):=by
 intro pins s σ H D I h;refine wpAny_Return_some<|bF (he pins s σ H _ I h) fun v s1 zz=>?_;obtain⟨x,H1,I1,r1,q1⟩:=zz;exact⟨x,σ,H1,I1,r1,q1⟩
def iY(c:TT)(t u:TS):TS:=fun D σ H=>c σ H fun b H1=>if b=true then t D σ H1 else u D σ H1
theorem bO{c:Expr}{a b:List Stmt}{tc:TT}(hc:PT X c tc)(ha:PSs X a t)(hb:PSs X b u):PS X (.If c a b pos) (iY tc t u):=by
 intro pins s σ H D I h;refine wpAny_If<|bF (hc pins s σ H _ I h) fun d s1 zz=>?_;obtain⟨H1,I1,q1⟩:=zz;cases d with
 |true=>exact ha pins s1 σ H1 D I1 q1
 |false=>exact hb pins s1 σ H1 D I1 q1
end
abbrev TG:=V->St->Hp->(St->Hp->Prop)->Prop
abbrev vW:=List V->St->Hp->(St->Hp->Prop)->Prop
def PG(X:Cx)(target:Expr)(t:TG):Prop:=
 ∀(pins:List (Addr×Obj))(s:CH)(σ:St)(H:Hp)(v:V)(u:CD)(Q:St->Hp->Prop),Inv X pins σ H s->RelV v u->t v σ H Q->
  wpAny (model X.prog X.w) X.A (assign target X.env u) (fun _ s'=>∃σ' H',Inv X pins σ' H' s'/\Q σ' H') X.xe s
def zC(X:Cx)(ts:List Expr)(t:vW):Prop:=
 ∀(pins:List (Addr×Obj))(s:CH)(σ:St)(H:Hp)(vs:List V)(us:List CD)(Q:St->Hp->Prop),Inv X pins σ H s->Vals vs us->t vs σ H Q->
  wpAny (model X.prog X.w) X.A (assignInOrder ((assignEach ts X.env).map (·.2)) us) (fun _ s'=>∃σ' H',Inv X pins σ' H' s'/\Q σ' H') X.xe s
abbrev yk:=V->V->V->Hp->(Hp->Prop)->Prop
def zU(X:Cx)(t:yk):Prop:=
 ∀(pins:List (Addr×Obj))(s:CH)(σ:St)(H:Hp)(o i v:V)(ov iv u:CD)(Q:Hp->Prop),Inv X pins σ H s->RelV o ov->RelV i iv->RelV v u->t o i v H Q->
  wpAny (model X.prog X.w) X.A (setItem ov iv u) (fun _ s'=>∃H',Inv X pins σ H' s'/\Q H') X.xe s
abbrev zV:=V->V->Hp->VK->Prop
def AK(X:Cx)(op:Mr)(t:zV):Prop:=
 ∀(pins:List (Addr×Obj))(s:CH)(σ:St)(H:Hp)(x y:V)(v u:CD)(Q:VK),Inv X pins σ H s->RelV x v->RelV y u->t x y H Q->
  wpAny (model X.prog X.w) X.A (inplaceOp op v u) (EP X pins σ Q) X.xe s
section
variable{X:Cx}{pos:Pos}
def aV(i:Nat):TG:=fun v σ H Q=>Q (σ.set i<|some v) H
theorem bo{i:Nat}{x:Str}(hN:X.N.Nodup)(hi:X.N[i]? =some x)(hx:xK X.env.scope x)(hf:X.fn x=true\/X.env.scope.names.lookup x=some .local:=by first|exact .inl rfl|exact .inr rfl|assumption):PG X (.Name x pos) (aV i):=by
 intro pins s σ H v u Q I r h;exact Ke<|gV I hN hi hx r (fun s' I'=>⟨_,H,I',h⟩) hf
def cx:vW:=fun vs σ H Q=>vs=[]/\Q σ H
def bj(t:TG)(u:vW):vW:=fun vs σ H Q=>∃v r,vs=v::r/\t v σ H fun σ' H'=>u r σ' H' Q
theorem bI:zC X [] cx:=by
 intro pins s σ H vs us Q I r h;obtain⟨e,h⟩:=h;subst e;cases r;exact assignInOrder_nil ⟨σ,H,I,h⟩
theorem au{e:Expr}{es:List Expr}{t:TG}{u:vW}(h1:PG X e t)(h2:zC X es u)
  (hs:(assignEach (e::es) X.env).map (·.2)=assign e X.env::(assignEach es X.env).map (·.2):=by rfl):zC X (e::es) (bj t u):=by
 intro pins s σ H vs us Q I r h;obtain⟨v,vr,e1,h⟩:=h;subst e1;cases r with
 |cons r rr=>
  rw[hs];refine assignInOrder_cons<|bF (h1 pins s σ H _ _ _ I r h) fun _ s1 zz=>?_;obtain⟨σ1,H1,I1,q1⟩:=zz;exact h2 pins s1 σ1 H1 _ _ Q I1 rr q1
def cb(K:CF)(n:Nat)(t:vW):TG:=fun v σ H Q=>∃a xs,v=.ref a/\SqT K H a xs/\xs.length=n/\t xs σ H Q
theorem yl{es:List Expr}{k:Nat}{t:vW}{n:Nat}(hc:X.calm=true)(h:zC X es t)
  (hn:(assignEach es X.env).length=n:=by rfl) (hst:(assignEach es X.env).findIdx? (·.1)=none:=by rfl):PG X (.Tuple es k pos) (cb X.K n t):=by
 intro pins s σ H v u Q I r hw;obtain⟨a,xs,e1,hq,hl,hw⟩:=hw;subst e1;cases r;obtain⟨its,rv,ht,hz⟩:=I.tuple hq;refine assign_Tuple_tuple (I.ok.hd hc) ht (by simp[hn,<-hl,rv.length]) hst fun h' hx=>?_;have I1:Inv X pins σ H {s with heap:=h'}:=I.kept (t':=s.toks) fun b o e=>hx b o (D0<|CP e) e;exact h pins _ σ H xs _ Q I1 (by simpa using rv) hw
def zW(to ti:TE)(t:yk):TG:=fun v σ H Q=>to σ H fun o H1=>ti σ H1 fun i H2=>t o i v H2 fun H3=>Q σ H3
theorem sH{o i:Expr}{to ti:TE}{t:yk}(ho:PE X o to)(hi:PE X i ti)(hs:zU X t)
  (ha:∀v,assign (.Subscript o i pos) X.env v=(do
   let ov <-holding [v] (eval o X.env)
   let iv <-holding [v,ov] (eval i X.env)
   standAt pos
   holding [v,ov,iv] (setItem ov iv v)
   release [v,ov,iv] []):=by intro _;rfl):PG X (.Subscript o i pos) (zW to ti t):=by
 intro pins s σ H v u Q I r h;rw[ha];refine Cy<|DQ<|bF (ho pins s σ H _ I h) fun ov s1 zz=>?_;obtain⟨x,H1,I1,r1,q1⟩:=zz;refine Cy<|DQ<|bF (hi pins s1 σ H1 _ I1 q1) fun iv s2 zz=>?_;obtain⟨y,H2,I2,r2,q2⟩:=zz;refine Cy<|F4<|Cy<|DQ<|bF (hs pins s2 σ H2 x y v ov iv u _ I2 r1 r2 r q2) fun _ s3 zz=>?_;obtain⟨H3,I3,q3⟩:=zz;exact wpAny_release ⟨σ,H3,I3,q3⟩
def bP(te:TE)(g:TG):TS:=fun D σ H=>te σ H fun x H1=>g x σ H1 D.nx
theorem eV{tg e:Expr}{te:TE}{g:TG}(he:PE X e te)(hg:PG X tg g)(hs:swapsWithSole [tg] e pos.line X.env=pure false:=by rfl)(hw:swappedStores [tg] e X.env=pure none:=by rfl)
  (h1:(assignEach [tg] X.env).map (·.2)=[assign tg X.env]:=by rfl):PS X (.Assign [tg] e pos) (bP te g):=by
 intro pins s σ H D I h;refine wpAny_Assign_stores (bF (he pins s σ H _ I h) fun v s1⟨x,H1,I1,r1,q1⟩=>?_) hs hw;rw[h1];exact bF (hg pins s1 σ H1 x v _ I1 r1 q1) fun _ s2 q=>q
theorem fq{i:Nat}{x:Str}{e:Expr}{te:TE}{pos':Pos}(hN:X.N.Nodup)(hi:X.N[i]? =some x)(hx:xK X.env.scope x)(he:PE X e te)(hs:swapsWith e (some<|.Name x pos') pos.line X.env=pure false:=by rfl)(hf:X.fn x=true\/X.env.scope.names.lookup x=some .local:=by first|exact .inl rfl|exact .inr rfl|assumption):
  PS X (.Assign [.Name x pos'] e pos) (bP te<|aV i):=by
 intro pins s σ H D I h;refine wpAny_Assign_Name (bF (he pins s σ H _ I h) fun v s1⟨y,H1,I1,r1,q1⟩=>?_) hs;exact gV I1 hN hi hx r1 (fun s2 I2=>⟨_,H1,I2,q1⟩) hf
def vX(i:Nat)(te:TE)(ti:zV):TS:=fun D σ H=>∃x,σ[i]? =some (some x)/\te σ H fun y H1=>ti x y H1 fun z H2=>D.nx (σ.set i<|some z) H2
theorem oq{i:Nat}{x:Str}{e:Expr}{te:TE}{op:Mr}{ti:zV}{pos':Pos}(hN:X.N.Nodup)(hi:X.N[i]? =some x)(hx:xK X.env.scope x)(he:PE X e te)(ho:AK X op ti)(hf:X.fn x=true\/X.env.scope.names.lookup x=some .local:=by first|exact .inl rfl|exact .inr rfl|assumption):
  PS X (.AugAssign (.Name x pos') op e pos) (vX i te ti):=by
 intro pins s σ H D I h;obtain⟨v,e1,h⟩:=h;obtain⟨m,hn,hl⟩:=I.loc;have zG:Vis X.env.scope x:=by rcases hx with k|k;exact .inl k;exact .inr<|.inl k
 obtain⟨u,r,l⟩:=hl i x v hi e1 zG;refine wpAny_AugAssign_Name ?_;have go:wpAny (model X.prog X.w) X.A (eval e X.env) (fun w s₂=>wpAny (model X.prog X.w) X.A (inplaceOp op u w) (fun r s₃=>wpAny (model X.prog X.w) X.A (storeName X.env x r) (fun _=>SP X pins D .next) X.xe s₃) X.xe s₂) X.xe s:=by
  refine bF (he pins s σ H _ I h) fun w s1 zz=>?_;obtain⟨y,H1,I1,r1,q1⟩:=zz;refine bF (ho pins s1 σ H1 v y u w _ I1 r r1 q1) fun z s2 zz=>?_;obtain⟨zv,H2,I2,r2,q2⟩:=zz;exact gV I2 hN hi hx r2 (fun s3 I3=>⟨_,H2,I3,q2⟩) hf
 rcases l with⟨hk,hm⟩|⟨hk,c,hc,hcell⟩
 ·exact Jl I.ok.kind hk hn hm go
 ·rcases hk with hk | hk;·exact JB I.ok.kind hk hc hcell go
  ·rcases hx with k | k
   ·have:X.env.scope.names.lookup x=some .free:=hk;rw[k]at this;cases this
   ·have:X.env.scope.names.lookup x=some .free:=hk;rw[k]at this;cases this
def AL(f:Int->Int->Int):zV:=fun x y H Q=>∃i j,x=.int i/\y=.int j/\Q (.int<|f i j) H
theorem ym:AK X .Add (AL fun i j=>i+j):=by
 intro pins s σ H x y v u Q I r1 r2 h;obtain⟨i,j,e1,e2,q⟩:=h;subst e1;subst e2;obtain⟨t,rfl⟩:=r1;obtain⟨t',rfl⟩:=r2;exact iadd_int ⟨.int _,H,I.tok _,⟨_,rfl⟩,q⟩
theorem yn:AK X .Sub (AL fun i j=>i-j):=by
 intro pins s σ H x y v u Q I r1 r2 h;obtain⟨i,j,e1,e2,q⟩:=h;subst e1;subst e2;obtain⟨t,rfl⟩:=r1;obtain⟨t',rfl⟩:=r2;exact isub_int ⟨.int _,H,I.tok _,⟨_,rfl⟩,q⟩
end
section
variable{X:Cx}{pos:Pos}
def ou(c:TT)(tb:TS):TS:=fun D σ H=>∃W:Nat->St->Hp->Prop,(∃m,W m σ H)/\∀m σ H,W m σ H->
 c σ H fun b H1=>if b=true then ∃N:St->Hp->Prop,(∀σ' H',N σ' H'->∃m',m'<m/\W m' σ' H')/\tb {D with nx:=N,ct:=N,bk:=D.nx} σ H1 else D.nx σ H1
theorem sI{c:Expr}{body:List Stmt}{tc:TT}{tb:TS}(hp:PassesOwn (model X.prog X.w) X.A X.env X.xe)(hc:PT X c tc)(hb:PSs X body tb):PS X (.While c body [] pos) (ou tc tb):=by
 intro pins s σ H D I h;obtain⟨W,⟨m0,w0⟩,turn⟩:=h;refine wpAny_While<|codeAny_whileLoop (fun n s'=>∃σ' H',Inv X pins σ' H' s'/\W n σ' H') ?_ m0 ⟨σ,H,I,w0⟩;rintro n s1 ⟨σ1,H1,I1,w1⟩;refine Fv hp<|bF (hc pins s1 σ1 H1 _ I1<|turn n σ1 H1 w1) fun b s2 zz=>?_;obtain⟨H2,I2,q2⟩:=zz;cases b with
 |true=>
  obtain⟨N,hN,q2⟩:=q2;rw[if_pos rfl];refine Fv hp<|bF (hb pins s2 σ1 H2 _ I2 q2) fun f s3 q3=>?_;cases f with
  |next=>
   obtain⟨σ3,H3,I3,n3⟩:=q3;obtain⟨m',hm,w3⟩:=hN σ3 H3 n3;exact⟨m',hm,σ3,H3,I3,w3⟩
  |cont=>
   obtain⟨σ3,H3,I3,n3⟩:=q3;obtain⟨m',hm,w3⟩:=hN σ3 H3 n3;exact⟨m',hm,σ3,H3,I3,w3⟩
  |brk=>exact q3
  |ret v=>exact q3
 |false=>
  rw[if_neg CS];exact Gk ⟨σ1,H2,I2,q2⟩
end
structure It where
 go:Nat->Hp->Prop
 yld:Nat->Hp->V->Hp->Prop
 stop:Nat->Hp->Prop
def FpOk(X:Cx)(pins:List (Addr×Obj))(H:Hp)(b:Addr):Prop:=
 H b=none/\b≠X.env.locals/\b∉X.fs/\(b∈X.ex\/X.s₀.heap.objs.size<=b)/\(∀x c,X.env.cells.lookup x=some c->c≠b)/\∀p∈X.pn++pins,p.1≠b
theorem Inv.fpOk{X:Cx}{pins:List (Addr×Obj)}{σ:St}{H H':Hp}{s:CH}{b:Addr}(I:Inv X pins σ H s)(hb:s.heap.objs.size<=b)(hn:H' b=none):FpOk X pins H' b:=by
 refine⟨hn,ER<|CN I.lt hb,I.nofs hb,.inr<|E9 I.sz hb,fun x c e z=>?_,fun p hp z=>?_⟩
 ·obtain⟨v,q⟩:=I.cell x c e;exact absurd (CN q.lt (by rw[z];exact hb))<|DH _
 ·exact absurd (CN (CP (I.pin p hp).1) (by rw[z];exact hb))<|DH _
structure Turn(P:CT)(w:D6)(K:CF)(tg:Expr)(J:It)(fp:List Addr)(it:Addr)(tn:Nat->Heap->Prop):Prop where
 mem:it∈fp
 obj:∀i h,tn i h->∀b∈fp,∃o,h.get? b=some o/\∀v,o.data≠.cell v
 keep:∀i h h',tn i h->(∀b∈fp,∀o,h.get? b=some o->h'.get? b=some o)->tn i h'
 item:∀(X:Cx),X.prog=P->X.w=w->X.K=K->X.calm=true->∀(i:Nat)(pins:List (Addr×Obj))(s:CH)(σ:St)(H:Hp)(E:CD->CH->Prop),Inv X pins σ H s->(∀b∈fp,FpOk X pins H b)->tn i s.heap->J.go i H->
  wpAny (model P w) X.A (pyNext<|.ref it) (fun r s1=>∃u,r=some u/\
   wpAny (model P w) X.A (letOwnedTupleGo tg (.ref it) u) (fun _ s2=>∃x H',Inv X pins σ H' s2/\RelV x u/\J.yld i H x H'/\tn (i+1) s2.heap/\∀b∈fp,H' b=none) E s1) E s
 done:∀(X:Cx),X.prog=P->X.w=w->X.K=K->X.calm=true->∀(i:Nat)(pins:List (Addr×Obj))(s:CH)(σ:St)(H:Hp)(E:CD->CH->Prop),Inv X pins σ H s->(∀b∈fp,FpOk X pins H b)->tn i s.heap->J.stop i H->
  wpAny (model P w) X.A (pyNext<|.ref it) (fun r s1=>r=none/\Inv X pins σ H s1) E s
 self:∀(A:Dr)(i:Nat)(s:CH)(Q:CD->CH->Prop)(E:CD->CH->Prop),tn i s.heap->Q (.ref it) s->wpAny (model P w) A (pyIter<|.ref it) Q E s
abbrev TI:=St->Hp->(It->Hp->Prop)->Prop
def Bu(X:Cx)(pins:List (Addr×Obj))(σ:St)(tg:Expr)(R:It->Hp->Prop)(itv:CD)(s2:CH):Prop:=
 ∃(it:Addr)(fp:List Addr)(tn:Nat->Heap->Prop)(J:It)(H':Hp),itv=.ref it/\Inv X pins σ H' s2/\Turn X.prog X.w X.K tg J fp it tn/\tn 0 s2.heap/\(∀b∈fp,FpOk X pins H' b)/\R J H'
def PI(X:Cx)(tg iter:Expr)(wi:TI):Prop:=
 ∀(pins:List (Addr×Obj))(s:CH)(σ:St)(H:Hp)(R:It->Hp->Prop),Inv X pins σ H s->wi σ H R->
  wpAny (model X.prog X.w) X.A (eval iter X.env) (fun v s1=>wpAny (model X.prog X.w) X.A (pyIter v) (Bu X pins σ tg R) X.xe s1) X.xe s
theorem kY{M:Le}{A:Dr}{E:CD->CH->Prop}{s:CH}{tg:Expr}{it:Addr}{u:CD}{o:Obj}{n:String}{vs:Array CD}{Q:Unit->CH->Prop}(ho:s.heap.get? it=some o)(hc:o.cls=.type n)(hd:o.data=.fields vs)
    (hn:["enumerate","zip","dict_itemiterator","dict_reverseitemiterator","odict_iterator","itertools.zip_longest","itertools.pairwise"].contains n=false) (hQ:Q () s):wpAny M A (letOwnedTupleGo tg (.ref it) u) Q E s:=by
  unfold letOwnedTupleGo
  cases tg<;>first
    |exact CG hQ
    |(cases u<;>first
        |exact CG hQ
        | (refine Cy (wpAny_load ho ?_)
           rw[hc,hd];show wpAny M A (if(["enumerate","zip","dict_itemiterator","dict_reverseitemiterator","odict_iterator","itertools.zip_longest","itertools.pairwise"].contains n&&vs[0]? ==some (rawInt _))=true then _ else _) Q E s;rw[if_neg (by intro h;rw[hn,Lg]at h;cases h)];exact CG hQ))
def Bv(K:CF)(a:Addr):It:=
 ⟨fun i H=>∃xs x,SqL K H a xs/\xs[i]? =some x,fun i H x H'=>H'=H/\∀xs,SqL K H a xs->xs[i]? =some x,fun i H=>∃xs,SqL K H a xs/\xs.length<=i⟩
def Bw(lo:Int)(n:Nat):It:=⟨fun i _=>i<n,fun i H x H'=>H'=H/\x=.int (lo+i),fun i _=>n<=i⟩
theorem gp{P:CT}{w:D6}{K:CF}{tg:Expr}(a it:Addr):Turn P w K tg (Bv K a) [it] it (fun i h=>h.IsListIter it a i) where
 mem:=by simp
 obj:=fun i h st b hb=>by
  have e:b=it:=by simpa using hb
  subst e;obtain⟨o,e,c,d⟩:=st;exact⟨o,e,fun v z=>by rw[d]at z;cases z⟩
 keep:=fun i h h' st k=>st.at fun o e=>k it (by simp) o e
 item:=by
  intro X hP hw hK hc i pins s σ H E I hf st hg;subst hP hw hK;obtain⟨xs,x,hq,hx⟩:=hg;obtain⟨its,rv,p,hz⟩:=I.list hq;obtain⟨u,hu,ru⟩:=rv.get hx;obtain⟨f0,f1,f2,f3,f4,f5⟩:=hf it (by simp);refine II st p.isList (x:=u) (by simpa using hu) fun h' st' sb=>?_;have I1:Inv X pins σ H {s with heap:=h'}:=I.turned (t':=s.toks) (fun b o hb e=>(sb.2 b hb).trans e) f0 f1 f3 f4 f5;obtain⟨o,e,c,d⟩:=id st';exact⟨u,rfl,kY (s:={s with heap:=h'}) e c d (by decide) ⟨x,H,I1,ru,⟨rfl,fun ys hy=>by rw[I.list_inj hy hq];exact hx⟩,st',fun b hb=>(hf b hb).1⟩⟩
 done:=by
  intro X hP hw hK hc i pins s σ H E I hf st hg;subst hP hw hK;obtain⟨xs,hq,hx⟩:=hg;obtain⟨its,rv,p,hz⟩:=I.list hq;obtain⟨f0,f1,f2,f3,f4,f5⟩:=hf it (by simp);have hl:=rv.length;exact wpAny_pyNext_list_end (I.ok.hd hc) st p.isList (by simp;omega) fun h' eb=>⟨rfl,I.turned (t':=s.toks) (fun b o hb e=>eb b o hb e) f0 f1 f3 f4 f5⟩
 self:=fun _ _ _ _ _ st h=>wpAny_pyIter_listiter st h
theorem oz{P:CT}{w:D6}{K:CF}{tg:Expr}(it:Addr)(lo:Int)(n:Nat):Turn P w K tg (Bw lo n) [it] it (fun i h=>Jm h it (lo+(i:Nat)*1) ((n:Int)-(i:Nat)) 1) where
 mem:=by simp
 obj:=fun i h st b hb=>by
  have e:b=it:=by simpa using hb
  subst e;exact⟨_,st,fun v z=>by
   have z':Hi _=FG v:=z;cases z'⟩
 keep:=fun i h h' st k=>k it (by simp) _ st
 item:=by
  intro X hP hw hK hc i pins s σ H E I hf st hg;subst hP hw hK;obtain⟨f0,f1,f2,f3,f4,f5⟩:=hf it (by simp);have W:=Walks.range (prog:=X.prog) (w:=X.w) (I.ok.hd hc) it lo 1 n;refine W.item i s _ _ hg st fun v h' tk hv st' kk=>?_;obtain⟨t,rfl⟩:=hv;have I1:Inv X pins σ H {s with heap:=h',toks:=tk}:=I.turned (fun b o hb e=>kk b o (by simpa using hb) e) f0 f1 f3 f4 f5;refine⟨_,rfl,kY (s:={s with heap:=h',toks:=tk}) (n:="range_iterator") st' rfl rfl (by decide) ⟨.int<|lo+i,H,I1,⟨t,?_⟩,⟨rfl,rfl⟩,st',fun b hb=>(hf b hb).1⟩⟩;rw[Int.mul_one]
 done:=by
  intro X hP hw hK hc i pins s σ H E I hf st hg;subst hP hw hK;obtain⟨f0,f1,f2,f3,f4,f5⟩:=hf it (by simp);exact IJ (I.ok.hd hc) st (by have:n<=i:=hg;omega) fun h' eb=>⟨rfl,I.turned (t':=s.toks) (fun b o hb e=>eb b o hb e) f0 f1 f3 f4 f5⟩
 self:=fun _ _ _ _ _ st h=>GC st h
section
variable{X:Cx}{tg:Expr}
def pJ(K:CF)(tl:TE):TI:=fun σ H R=>tl σ H fun x H1=>∃a,x=.ref a/\(∃xs,SqL K H1 a xs)/\R (Bv K a) H1
theorem vY{l:Expr}{tl:TE}(hl:PE X l tl):PI X tg l (pJ X.K tl):=by
 intro pins s σ H R I h;refine bF (hl pins s σ H _ I h) fun v s1 zz=>?_;obtain⟨x,H1,I1,r1,q1⟩:=zz;obtain⟨a,e,⟨xs,hq⟩,q⟩:=q1;subst e;cases r1;obtain⟨its,rv,p,hz⟩:=I1.list hq;refine GD p.isList ?_;refine⟨s1.heap.objs.size,[s1.heap.objs.size],_,_,H1,rfl,I1.kept (t':=s1.toks) fun b o e=>CB _ e,gp a _,⟨_,CM _ rfl,rfl,rfl⟩,fun b hb=>?_,q⟩;have e:b=s1.heap.objs.size:=by simpa using hb
 subst e;exact I1.fpOk (CU _)<|I1.hok.fresh<|CU _
theorem sJ{pins:List (Addr×Obj)}{σ:St}{H:Hp}{s:CH}{R:It->Hp->Prop}{E:CD->CH->Prop}{lo hi:Int}{t u v:Tok}{tk:Nat}(I:Inv X pins σ H s)(h1: -(2^62)<=lo)(h2:lo<2^62)(h3: -(2^62)<=hi)(h4:hi<2^62)
  (q:R (Bw lo (hi-lo).toNat) H):wpAny (model X.prog X.w) X.A (pyIter<|.ref s.heap.objs.size) (Bu X pins σ tg R) E {s with heap:=s.heap.push {cls:=.type "range",data:=.fields #[.int lo t,.int hi u,.int 1 v]},toks:=tk}:=by
 refine wpAny_pyIter_range (Ms ..) (small_one h1 h2 h3 h4) ?_;have I1:Inv X pins σ H {s with heap:=s.heap.push {cls:=.type "range",data:=.fields #[.int lo t,.int hi u,.int 1 v]},toks:=tk}:=I.kept fun b o e=>CB _ e;refine⟨(s.heap.push {cls:=.type "range",data:=.fields #[.int lo t,.int hi u,.int 1 v]}).objs.size,[(s.heap.push {cls:=.type "range",data:=.fields #[.int lo t,.int hi u,.int 1 v]}).objs.size],_,_,H,rfl,
  I1.kept (t':=tk) fun b o e=>CB _ e,oz _ lo (hi-lo).toNat,?_,fun b hb=>?_,q⟩
 ·have e1:lo+((0:Nat):Int)*1=lo:=by simp
  have e2:(((hi-lo).toNat:Nat):Int)-((0:Nat):Int)=Ec lo hi 1:=by rw[rangeSize_one];split<;>omega
  show Jm _ _ (lo+((0:Nat):Int)*1) ((((hi-lo).toNat:Nat):Int)-((0:Nat):Int)) 1;rw[e1,e2];exact CM _ rfl
 ·have e:b=(s.heap.push {cls:=.type "range",data:=.fields #[.int lo t,.int hi u,.int 1 v]}).objs.size:=by simpa using hb
  subst e;exact I1.fpOk (CU _)<|I1.hok.fresh<|CU _
def xM(ta:TA):TI:=fun σ H R=>ta σ H fun vs H1=>∃j:Int,vs=[.int j]/\ -(2^62)<=j/\j<2^62/\R (Bw 0 j.toNat) H1
theorem gq{a:Expr}{ta:TA}{p pos:Pos}(hg:Gl X "range")(hm:X.mg "range"=none)(ha:PA X [a] ta)(hs:starEach [a] X.env=[(false,eval a X.env)]:=by rfl):PI X tg (.Call (.Name "range" p) [a] [] pos) (xM ta):=by
 intro pins s σ H R I h;refine Mt<|fh I hg hm boot_range<|E7 (bF (ha pos pins s σ H _ I h) fun us s1⟨vs,H1,I1,r1,q1⟩=>?_) hs rfl;obtain⟨j,e,q1,q2,q⟩:=q1;subst e;cases r1 with
 |cons r rr=>
  cases rr;obtain⟨t,rfl⟩:=r;exact call_range_1 (sJ I1 (by omega) (by omega) q1 q2 (by simpa using q))
def sL(wi:TI)(g:TG)(tb:TS):TS:=fun D σ H=>wi σ H fun J H1=>∃W:Nat->Nat->St->Hp->Prop,(∃m,W 0 m σ H1)/\∀i m σ H,W i m σ H->
 (J.stop i H/\D.nx σ H)\/(J.go i H/\∃N:St->Hp->Prop,(∀σ' H',N σ' H'->∃m',m'<m/\W (i+1) m' σ' H')/\∀x H',J.yld i H x H'->g x σ H' fun σ2 H2=>tb {D with nx:=N,ct:=N,bk:=D.nx} σ2 H2)
def gJ(fp:List Addr)(h:Heap):List (Addr×Obj):=fp.filterMap fun b=>(h.get? b).map fun o=>(b,o)
theorem dt{fp:List Addr}{h:Heap}{b:Addr}{o:Obj}(hb:b∈fp)(e:h.get? b=some o):(b,o)∈gJ fp h:=Gs.mpr ⟨b,hb,by rw[e];rfl⟩
theorem qU{fp:List Addr}{h:Heap}{p:Addr×Obj}(hp:p∈gJ fp h):p.1∈fp/\h.get? p.1=some p.2:=by
 obtain⟨b,hb,e⟩:=Gs.mp hp;cases q:h.get? b with
 |none=>rw[q]at e;cases e
 |some o=>
  rw[q]at e;have e':(b,o)=p:=Dp e;subst e';exact⟨hb,q⟩
theorem Inv.pinned{pins:List (Addr×Obj)}{σ:St}{H:Hp}{s:CH}{fp:List Addr}(I:Inv X pins σ H s)(hf:∀b∈fp,FpOk X pins H b)(ho:∀b∈fp,∃o,s.heap.get? b=some o/\∀v,o.data≠.cell v):Inv X (pins++gJ fp s.heap) σ H s:=
 I.pins_of fun p hp=>(Ff.mp hp).elim (fun z=>I.pin p<|Dd _ z) fun z=>by
  obtain⟨hb,e⟩:=qU z;obtain⟨f0,f1,f2,_⟩:=hf p.1 hb;obtain⟨o,e',d⟩:=ho p.1 hb;rw[e]at e';cases e';exact⟨e,f0,f1,f2,d⟩
theorem Inv.unpinned{pins pl:List (Addr×Obj)}{σ:St}{H:Hp}{s:CH}(I:Inv X (pins++pl) σ H s):Inv X pins σ H s:=I.pins_of fun p hp=>I.pin p<|Dd _<|EI _ hp
theorem cE{iter:Expr}{body:List Stmt}{wi:TI}{g:TG}{tb:TS}{pos:Pos}(hp:PassesOwn (model X.prog X.w) X.A X.env X.xe)(hc:X.calm=true)(hi:PI X tg iter wi)(hg:PG X tg g)(hb:PSs X body tb)
  (hs:∀x,foldedSetIterable iter X.env x=pure x:=by intro _;rfl):PS X (.For tg iter body [] pos) (sL wi g tb):=by
 intro pins s σ H D I h;refine wpAny_For (bF (hi pins s σ H _ I h) fun v s1 h1=>bF h1 fun itv s2 h2=>?_) hs;obtain⟨it,fp,tn,J,H2,e,I2,T,st2,f2,W,⟨m0,w0⟩,turn⟩:=h2;subst e;have stat:∀{H':Hp},(∀b∈fp,H' b=none)->∀b∈fp,FpOk X pins H' b:=fun hn b hb=>⟨hn b hb,(f2 b hb).2⟩
 refine codeAny_forLoop_any (fun n s'=>∃i σ' H',Inv X pins σ' H' s'/\tn i s'.heap/\(∀b∈fp,H' b=none)/\W i n σ' H') ?_ m0 ⟨0,σ,H2,I2,st2,fun b hb=>(f2 b hb).1,w0⟩;rintro n s3 ⟨i,σ3,H3,I3,st3,fr3,w3⟩;rcases turn i n σ3 H3 w3 with⟨stop,qn⟩|⟨go,N,hN,step⟩
 ·refine Fv hp<|bF (T.done X rfl rfl rfl hc i pins s3 σ3 H3 X.xe I3 (stat fr3) st3 stop) fun r s4 zz=>?_;obtain⟨hr,I4⟩:=zz;subst hr;exact Gk ⟨σ3,H3,I4,qn⟩
 ·refine Fv hp<|bF (T.item X rfl rfl rfl hc i pins s3 σ3 H3 X.xe I3 (stat fr3) st3 go) fun r s4 zz=>?_;obtain⟨u,hr,h4⟩:=zz;subst hr;refine Fv hp<|bF h4 fun _ s5 zz=>?_;obtain⟨x,H5,I5,r5,y5,st5,fr5⟩:=zz;have I5':=I5.pinned (stat fr5)<|T.obj _ _ st5;refine Fv hp<|bF (hg _ s5 σ3 H5 x u _ I5' r5<|step x H5 y5) fun _ s6 zz=>?_;obtain⟨σ6,H6,I6,q6⟩:=zz;refine Fv hp<|bF (hb _ s6 σ6 H6 _ I6 q6) fun f s7 q7=>?_;have again:∀{σ7:St}{H7:Hp},Inv X (pins++gJ fp s5.heap) σ7 H7 s7->N σ7 H7->∃m,m<n/\∃i σ' H',Inv X pins σ' H' s7/\tn i s7.heap/\(∀b∈fp,H' b=none)/\W i m σ' H':=fun{σ7 H7}I7 n7=>by
   obtain⟨m',hm,w7⟩:=hN σ7 H7 n7;refine⟨m',hm,i+1,σ7,H7,I7.unpinned,T.keep _ _ _ st5 fun b hb o e=>(I7.pin (b,o)<|Dd _<|Dd _<|dt hb e).1,fun b hb=>?_,w7⟩;obtain⟨o,e,d⟩:=T.obj _ _ st5 b hb;exact(I7.pin (b,o)<|Dd _<|Dd _<|dt hb e).2.1
  cases f with
  |next=>obtain⟨σ7,H7,I7,n7⟩:=q7;exact again I7 n7
  |cont=>obtain⟨σ7,H7,I7,n7⟩:=q7;exact again I7 n7
  |brk=>obtain⟨σ7,H7,I7,q7⟩:=q7;exact⟨σ7,H7,I7.unpinned,q7⟩
  |ret v=>obtain⟨x7,σ7,H7,I7,r7,q7⟩:=q7;exact⟨x7,σ7,H7,I7.unpinned,r7,q7⟩
end
abbrev R2:=V->V->Hp->VK->Prop
def OpR(X:Cx)(f:CD->CD->Sem CD)(r:R2):Prop:=
 ∀(pins:List (Addr×Obj))(s:CH)(σ:St)(H:Hp)(x y:V)(v u:CD)(Q:VK),Inv X pins σ H s->RelV x v->RelV y u->r x y H Q->
  wpAny (model X.prog X.w) X.A (f v u) (EP X pins σ Q) X.xe s
def Bx(X:Cx)(f:CD->Sem CD)(r:V->Hp->VK->Prop):Prop:=
 ∀(pins:List (Addr×Obj))(s:CH)(σ:St)(H:Hp)(x:V)(v:CD)(Q:VK),Inv X pins σ H s->RelV x v->r x H Q->
  wpAny (model X.prog X.w) X.A (f v) (EP X pins σ Q) X.xe s
def dC(X:Cx)(f:CD)(r:List V->Hp->VK->Prop):Prop:=
 ∀(pins:List (Addr×Obj))(s:CH)(σ:St)(H:Hp)(xs:List V)(us:List CD)(Q:VK),Inv X pins σ H s->Vals xs us->r xs H Q->
  wpAny (model X.prog X.w) X.A (call f us) (EP X pins σ Q) X.xe s
def df(r:R2)(ta tb:TE):TE:=fun σ H Q=>ta σ H fun x H1=>tb σ H1 fun y H2=>r x y H2 Q
def ft(r:V->Hp->VK->Prop)(ta:TE):TE:=fun σ H Q=>ta σ H fun x H1=>r x H1 Q
def rI(C:Int->Int->Prop)(g:Int->Int->V):R2:=fun x y H Q=>∃i j,x=.int i/\y=.int j/\C i j/\Q (g i j) H
def eM(g:Int->Int->V):R2:=fun x y H Q=>∃i j,x=.int i/\y=.int j/\Q (g i j) H
def rU(g:Int->V):V->Hp->VK->Prop:=fun x H Q=>∃i,x=.int i/\Q (g i) H
section
variable{X:Cx}{a b c:Expr}{ta tb tc:TE}{pos:Pos}
theorem yo(ha:PE X a ta)(hb:PE X b tb){pins:List (Addr×Obj)}{s:CH}{σ:St}{H:Hp}{R:V->V->Hp->Prop}(I:Inv X pins σ H s)
  (h:ta σ H fun x H1=>tb σ H1 fun y H2=>R x y H2) {Q:CD->CH->Prop} {f:CD->CD->Sem CD}
  (hf:∀v u s2 x y H2,Inv X pins σ H2 s2->RelV x v->RelV y u->R x y H2->wpAny (model X.prog X.w) X.A (f v u) Q X.xe s2):
  wpAny (model X.prog X.w) X.A (eval a X.env) (fun v s₁=>wpAny (model X.prog X.w) X.A (eval b X.env) (fun u s₂=>wpAny (model X.prog X.w) X.A (f v u) Q X.xe s₂) X.xe s₁) X.xe s:=by
 refine bF (ha pins s σ H _ I h) fun v s1 zz=>?_;obtain⟨x,H1,I1,r1,q1⟩:=zz;refine bF (hb pins s1 σ H1 _ I1 q1) fun u s2 zz=>?_;obtain⟨y,H2,I2,r2,q2⟩:=zz;exact hf v u s2 x y H2 I2 r1 r2 q2
theorem ai{op:Mr}{r:R2}(ho:OpR X (binaryOp op) r)(ha:PE X a ta)(hb:PE X b tb):PE X (.BinOp a op b pos) (df r ta tb):=by
 intro pins s σ H Q I h;exact wpAny_BinOp<|yo ha hb I h fun v u s2 x y H2 I2 rx ry q=>ho pins s2 σ H2 x y v u Q I2 rx ry q
theorem kZ{op:UnaryOp}{r:V->Hp->VK->Prop}(ho:Bx X (unaryOp op) r)(ha:PE X a ta):PE X (.UnaryOp op a pos) (ft r ta):=by
 intro pins s σ H Q I h;refine UnaryOp_<|bF (ha pins s σ H _ I h) fun v s1 zz=>?_;obtain⟨x,H1,I1,r1,q1⟩:=zz;exact ho pins s1 σ H1 x v Q I1 r1 q1
theorem AM{f:CD->CD->Sem CD}{C:Int->Int->Prop}{g:Int->Int->Int}
  (rule:∀(i j:Int)(t u:Tok)(s:CH)(Q:CD->CH->Prop)(E:CD->CH->Prop),C i j->Q (.int (g i j) s.toks) {s with toks:=s.toks+1}->wpAny (model X.prog X.w) X.A (f (.int i t)<|.int j u) Q E s):
  OpR X f (rI C fun i j=>.int<|g i j):=by
 intro pins s σ H x y v u Q I rx ry h;obtain⟨i,j,rfl,rfl,hc,q⟩:=h;obtain⟨t,rfl⟩:=rx;obtain⟨t',rfl⟩:=ry;exact rule i j t t' s _ _ hc ⟨.int<|g i j,H,I.tok _,⟨_,rfl⟩,q⟩
theorem zX{f:CD->CD->Sem CD}{g:Int->Int->Int}
  (rule:∀(i j:Int)(t u:Tok)(s:CH)(Q:CD->CH->Prop)(E:CD->CH->Prop),Q (.int (g i j) s.toks) {s with toks:=s.toks+1}->wpAny (model X.prog X.w) X.A (f (.int i t)<|.int j u) Q E s):
  OpR X f (eM fun i j=>.int<|g i j):=by
 intro pins s σ H x y v u Q I rx ry h;obtain⟨i,j,rfl,rfl,q⟩:=h;obtain⟨t,rfl⟩:=rx;obtain⟨t',rfl⟩:=ry;exact rule i j t t' s _ _ ⟨.int<|g i j,H,I.tok _,⟨_,rfl⟩,q⟩
theorem vZ{f:CD->CD->Sem CD}{g:Int->Int->Bool}
  (rule:∀(i j:Int)(t u:Tok)(s:CH)(Q:CD->CH->Prop)(E:CD->CH->Prop),Q (.bool<|g i j) s->wpAny (model X.prog X.w) X.A (f (.int i t)<|.int j u) Q E s):
  OpR X f (eM fun i j=>.bl<|g i j):=by
 intro pins s σ H x y v u Q I rx ry h;obtain⟨i,j,rfl,rfl,q⟩:=h;obtain⟨t,rfl⟩:=rx;obtain⟨t',rfl⟩:=ry;exact rule i j t t' s _ _ ⟨.bl<|g i j,H,I,rfl,q⟩
def zY(i j:Int):Prop:=0<j/\j<1073741824
def zZ(i j:Int):Prop:=0<=j/\j<=1000000/\i.natAbs<2^64
def CMul(i j:Int):Prop:=(-(2^64)<i/\i<2^64)\/(-(2^64)<j/\j<2^64)
theorem CMul.ok{i j:Int}(h:CMul i j):IntMulOk i j:=by
 rcases h with⟨h1,h2⟩|⟨h1,h2⟩
 ·exact .of_left<|LB h1 h2
 ·exact .of_right<|LB h1 h2
theorem bK:OpR X (binaryOp .Add) (eM fun i j=>.int<|i+j):=zX fun _ _ _ _ _ _ _ q=>add_int q
theorem fV:OpR X (binaryOp .Sub) (eM fun i j=>.int<|i-j):=zX fun _ _ _ _ _ _ _ q=>sub_int q
theorem eW:OpR X (binaryOp .Mult) (rI CMul fun i j=>.int<|i*j):=AM fun _ _ _ _ _ _ _ hc q=>mul_int q hc.ok
theorem bS:OpR X (binaryOp .FloorDiv) (rI zY fun i j=>.int<|i/j):=AM fun i j _ _ _ _ _ hc q=>by
 have h1:(0:Int)<j:=hc.1;have h2:j<1073741824:=hc.2;exact floordiv_int (by omega) (by rw[Int.fdiv_eq_ediv_of_nonneg i (by omega)];exact q) (.inl (PyProof.noPylong_small (by omega)))
theorem aP:OpR X (binaryOp .Mod) (rI (fun _ j=>0<j) fun i j=>.int<|i%j):=AM fun i j _ _ _ _ _ hc q=>by
 have h1:(0:Int)<j:=hc;exact mod_int' (by omega) (by rw[Int.fmod_eq_emod_of_nonneg i (by omega)];exact q)
theorem sM:OpR X (binaryOp .Pow) (rI zZ fun i j=>.int<|i^j.toNat):=AM fun _ _ _ _ _ _ _ hc q=>pow_int_small hc.1 hc.2.1 hc.2.2 q
theorem BP{f:CD->Sem CD}{g:Int->Int}
  (rule:∀(i:Int)(t:Tok)(s:CH)(Q:CD->CH->Prop)(E:CD->CH->Prop),Q (.int (g i) s.toks) {s with toks:=s.toks+1}->wpAny (model X.prog X.w) X.A (f<|.int i t) Q E s):
  Bx X f (rU fun i=>.int<|g i):=by
 intro pins s σ H x v Q I rx h;obtain⟨i,rfl,q⟩:=h;obtain⟨t,rfl⟩:=rx;exact rule i t s _ _ ⟨.int<|g i,H,I.tok _,⟨_,rfl⟩,q⟩
theorem ix:Bx X (unaryOp .USub) (rU fun i=>.int<|-i):=BP fun _ _ _ _ _ q=>neg_int q
end
def cF:V->V->Bool
 | .non,.non=>true| .non,.int _=>true| .int _,.non=>true| .non,.bl _=>true| .bl _,.non=>true| .non,.str _=>true| .str _,.non=>true
 | .int _,.int _=>true| .bl _,.bl _=>true| .str _,.str _=>true| .byt _,.byt _=>true
 | .int _,.str _=>true| .str _,.int _=>true| .bl _,.str _=>true| .str _,.bl _=>true
 |_,_=>false
def fJ:R2:=fun x y H Q=>cF x y=true/\Q (.bl<|decide<|x=y) H
def fK:R2:=fun x y H Q=>cF x y=true/\Q (.bl<|!decide (x=y)) H
theorem pK{i j:Int}:decide (V.int i=V.int j)=(i==j):=by
 rw[Fw];simp
theorem sN{i j:Bool}:decide (V.bl i=V.bl j)=(i==j):=by
 rw[Fw];simp
theorem pL{i j:Str}:decide (V.str i=V.str j)=(i==j):=by
 rw[Fw];simp
theorem pM{i j:Array UInt8}:decide (V.byt i=V.byt j)=(i.toList==j.toList):=by
 rw[Fw];cases i;cases j;simp
section
variable{X:Cx}{a b c:Expr}{ta tb tc:TE}{pos:Pos}
theorem aT{pins:List (Addr×Obj)}{σ:St}{H:Hp}{s:CH}{Q:VK}{k k':Bool}(I:Inv X pins σ H s)(q:Q (.bl k) H)(e:k=k'):EP X pins σ Q (.bool k') s:=by
 subst e;exact⟨.bl k,H,I,rfl,q⟩
theorem cS:OpR X (compareOp .Eq) fJ:=by
 intro pins s σ H x y v u Q I rx ry h;obtain⟨hs,q⟩:=h;cases x with
 |non=>
  cases rx;cases y with
  |non=>cases ry;exact Lo (aT I q (by simp))
  |bl j=>cases ry;exact Lp (aT I q (by simp))
  |int j=>obtain⟨t',rfl⟩:=ry;exact LC (aT I q (by simp))
  |str j=>obtain⟨t',rfl⟩:=ry;exact LD (aT I q (by simp))
  |_=>exact absurd (show false=true from hs) CS
 |bl i=>
  cases rx;cases y with
  |non=>cases ry;exact Lq (aT I q (by simp))
  |bl j=>cases ry;exact eq_bool<|aT I q sN
  |str j=>obtain⟨t',rfl⟩:=ry;exact Lr (aT I q (by simp))
  |_=>exact absurd (show false=true from hs) CS
 |int i=>
  obtain⟨t,rfl⟩:=rx;cases y with
  |non=>cases ry;exact LF (aT I q (by simp))
  |int j=>obtain⟨t',rfl⟩:=ry;exact eq_int<|aT I q pK
  |str j=>obtain⟨t',rfl⟩:=ry;exact LG (aT I q (by simp))
  |_=>exact absurd (show false=true from hs) CS
 |str i=>
  obtain⟨t,rfl⟩:=rx;cases y with
  |non=>cases ry;exact LH (aT I q (by simp))
  |bl j=>cases ry;exact Ls (aT I q (by simp))
  |int j=>obtain⟨t',rfl⟩:=ry;exact LJ (aT I q (by simp))
  |str j=>obtain⟨t',rfl⟩:=ry;exact eq_str<|aT I q pL
  |_=>exact absurd (show false=true from hs) CS
 |byt i=>
  obtain⟨t,rfl⟩:=rx;cases y with
  |byt j=>obtain⟨t',rfl⟩:=ry;exact PySem.W.eq_bytes<|aT I q pM
  |_=>exact absurd (show false=true from hs) CS
 |_=>cases y<;>exact absurd (show false=true from hs) CS
theorem jm:OpR X (compareOp .NotEq) fK:=by
 intro pins s σ H x y v u Q I rx ry h;obtain⟨hs,q⟩:=h;cases x with
 |non=>
  cases rx;cases y with
  |non=>cases ry;exact Lu (aT I q (by simp))
  |bl j=>cases ry;exact Lv (aT I q (by simp))
  |int j=>obtain⟨t',rfl⟩:=ry;exact LK (aT I q (by simp))
  |str j=>obtain⟨t',rfl⟩:=ry;exact LL (aT I q (by simp))
  |_=>exact absurd (show false=true from hs) CS
 |bl i=>
  cases rx;cases y with
  |non=>cases ry;exact Lw (aT I q (by simp))
  |bl j=>cases ry;exact ne_bool<|aT I q<|congrArg not sN
  |str j=>obtain⟨t',rfl⟩:=ry;exact Lx (aT I q (by simp))
  |_=>exact absurd (show false=true from hs) CS
 |int i=>
  obtain⟨t,rfl⟩:=rx;cases y with
  |non=>cases ry;exact LM (aT I q (by simp))
  |int j=>obtain⟨t',rfl⟩:=ry;exact ne_int<|aT I q<|congrArg not pK
  |str j=>obtain⟨t',rfl⟩:=ry;exact LN (aT I q (by simp))
  |_=>exact absurd (show false=true from hs) CS
 |str i=>
  obtain⟨t,rfl⟩:=rx;cases y with
  |non=>cases ry;exact LO (aT I q (by simp))
  |bl j=>cases ry;exact Ly (aT I q (by simp))
  |int j=>obtain⟨t',rfl⟩:=ry;exact LP (aT I q (by simp))
  |str j=>obtain⟨t',rfl⟩:=ry;exact ne_str<|aT I q<|congrArg not pL
  |_=>exact absurd (show false=true from hs) CS
 |byt i=>
  obtain⟨t,rfl⟩:=rx;cases y with
  |byt j=>obtain⟨t',rfl⟩:=ry;exact PySem.W.ne_bytes<|aT I q<|congrArg not pM
  |_=>exact absurd (show false=true from hs) CS
 |_=>cases y<;>exact absurd (show false=true from hs) CS
theorem pN:OpR X (compareOp .Lt) (eM fun i j=>.bl<|decide<|i<j):=vZ fun _ _ _ _ _ _ _ q=>lt_int q
theorem xN:OpR X (compareOp .LtE) (eM fun i j=>.bl<|decide<|i<=j):=vZ fun _ _ _ _ _ _ _ q=>le_int q
theorem sO:OpR X (compareOp .Gt) (eM fun i j=>.bl<|decide<|j<i):=vZ fun _ _ _ _ _ _ _ q=>gt_int q
theorem l0:OpR X (compareOp .GtE) (eM fun i j=>.bl<|decide<|j<=i):=vZ fun _ _ _ _ _ _ _ q=>ge_int q
theorem op_isN:OpR X (compareOp .Is) (fun x y H Q=>y=.non/\Q (.bl<|decide<|x=.non) H):=by
 intro pins s σ H x y v u Q I rx ry h;obtain⟨rfl,q⟩:=h;cases ry;refine is_none_gen<|aT I q ?_
 cases x<;>first
  |(cases rx;rfl)
  |(obtain⟨t,rfl⟩:=rx;rfl)
theorem OpR.or{f:CD->CD->Sem CD}{r r':R2}(h:OpR X f r)(h':OpR X f r'):OpR X f (fun x y H Q=>r x y H Q\/r' x y H Q):=by
 intro pins s σ H x y v u Q I rx ry q;rcases q with q|q
 ·exact h pins s σ H x y v u Q I rx ry q
 ·exact h' pins s σ H x y v u Q I rx ry q
theorem aJ(b:Expr){op:CmpOp}(h:op≠.In:=by decide)(h2:op≠.NotIn:=by decide):behindInMarks op b=false:=by
 have e1:(op==CmpOp.In)=false:=by cases op<;>first|rfl|exact absurd rfl h
 have e2:(op==CmpOp.NotIn)=false:=by cases op<;>first|rfl|exact absurd rfl h2
 cases b<;>simp[behindInMarks,e1,e2]
theorem dg{op:CmpOp}{r:R2}(ho:OpR X (compareOp op) r)(ha:PE X a ta)(hb:PE X b tb)(hm:behindInMarks op b=false):PE X (.Compare a [op] [b] pos) (df r ta tb):=by
 intro pins s σ H Q I h;exact wpAny_Compare1 (yo ha hb I h fun v u s2 x y H2 I2 rx ry q=>ho pins s2 σ H2 x y v u Q I2 rx ry q) hm
def bC(t:TE):TT:=fun σ H Q=>t σ H fun x H'=>∃k,x=.bl k/\Q k H'
theorem aI{op:CmpOp}{r:R2}(ho:OpR X (compareOp op) r)(ha:PE X a ta)(hb:PE X b tb)(hm:behindInMarks op b=false):PT X (.Compare a [op] [b] pos) (bC<|df r ta tb):=by
 intro pins s σ H Q I h;refine wpAny_isTrue_Compare1 (bF (ha pins s σ H _ I h) fun v s1⟨x,H1,I1,r1,q1⟩=>bF (hb pins s1 σ H1 _ I1 q1) fun u s2⟨y,H2,I2,r2,q2⟩=>
  bF (ho pins s2 σ H2 x y v u _ I2 r1 r2 q2) fun c s3⟨z,H3,I3,r3,k,e,q3⟩=>?_) hm
 subst e;cases r3;exact Fy ⟨H3,I3,q3⟩
theorem jn:(sizeLine:Nat)<2^63:=by rw[E6];decide
theorem cj:OpR X (binaryOp .Add) (fun x y H Q=>∃i j,x=.str i/\y=.str j/\i.length+j.length<=sizeLine/\Q (.str<|i++j) H):=by
 intro pins s σ H x y v u Q I rx ry h;obtain⟨i,j,rfl,rfl,hz,q⟩:=h;obtain⟨t,rfl⟩:=rx;obtain⟨t',rfl⟩:=ry;exact add_str (fun t' tk=>⟨.str<|i++j,H,I.tok _,⟨_,rfl⟩,q⟩) hz
theorem mQ:OpR X (inplaceOp .Add) (fun x y H Q=>∃i j,x=.str i/\y=.str j/\i.length+j.length<=sizeLine/\Q (.str<|i++j) H):=by
 intro pins s σ H x y v u Q I rx ry h;obtain⟨i,j,rfl,rfl,hz,q⟩:=h;obtain⟨t,rfl⟩:=rx;obtain⟨t',rfl⟩:=ry;exact iadd_str (fun t' tk=>⟨.str<|i++j,H,I.tok _,⟨_,rfl⟩,q⟩) hz
theorem f9{x:V}{us:List CD}(r:Vals [x] us):∃u,us=[u]/\RelV x u:=by
 cases r with
 |cons r1 r2=>cases r2;exact⟨_,rfl,r1⟩
theorem sP{x y:V}{us:List CD}(r:Vals [x,y] us):∃u w',us=[u,w']/\RelV x u/\RelV y w':=by
 cases r with
 |cons r1 r2=>
  cases r2 with
  |cons r3 r4=>cases r4;exact⟨_,_,rfl,r1,r3⟩
theorem jo:dC X (.builtin "abs") (fun xs H Q=>∃i,xs=[.int i]/\Q (.int (if i<0 then -i else i)) H):=by
 intro pins s σ H xs us Q I r h;obtain⟨i,rfl,q⟩:=h;obtain⟨u,rfl,t,rfl⟩:=f9 r;exact call_abs_int fun u tk=>⟨.int (if i<0 then -i else i),H,I.tok _,⟨_,rfl⟩,q⟩
theorem l4:dC X (.type "int") (fun xs H Q=>(∃i,xs=[.int i]/\Q (.int i) H)\/∃k,xs=[.bl k]/\Q (.int (if k then 1 else 0)) H):=by
 intro pins s σ H xs us Q I r h;rcases h with⟨i,rfl,q⟩|⟨k,rfl,q⟩
 ·obtain⟨u,rfl,t,rfl⟩:=f9 r;exact call_int_int ⟨.int i,H,I,⟨_,rfl⟩,q⟩
 ·obtain⟨u,rfl,r1⟩:=f9 r;cases r1;exact call_int_bool ⟨.int (if k then 1 else 0),H,I.tok _,⟨_,rfl⟩,q⟩
def oA(K:CF)(x:V)(H:Hp)(n:Nat):Prop:=
 match x with
 | .str y=>y.length<=sizeLine/\n=y.length
 | .byt y=>y.size<=sizeLine/\n=y.size
 | .ref p=>(∃xs,SqL K H p xs/\n=xs.length)\/∃xs,SqT K H p xs/\n=xs.length
 |_=>False
theorem sQ:dC X (.builtin "len") (fun xs H Q=>∃x n,xs=[x]/\oA X.K x H n/\Q (.int n) H):=by
 intro pins s σ H xs us Q I r h;obtain⟨x,n,rfl,e,q⟩:=h;obtain⟨u,rfl,rx⟩:=f9 r;have hl:=jn;have hs:sizeLine=16777216:=E6;cases x with
 |str y=>
  obtain⟨t,rfl⟩:=rx;obtain⟨hy,e'⟩:y.length<=sizeLine/\n=y.length:=e;subst e';exact len_str (by omega) ⟨.int _,H,I.tok _,⟨_,rfl⟩,q⟩
 |byt y=>
  obtain⟨t,rfl⟩:=rx;obtain⟨hy,e'⟩:y.size<=sizeLine/\n=y.size:=e;subst e';exact PySem.W.len_bytes (by omega) ⟨.int _,H,I.tok _,⟨_,rfl⟩,q⟩
 |ref p=>
  cases rx;have e':(∃xs,SqL X.K H p xs/\n=xs.length)\/∃xs,SqT X.K H p xs/\n=xs.length:=e;rcases e' with⟨xs,hx,e'⟩|⟨xs,hx,e'⟩
  ·subst e';obtain⟨its,r',pl,hz⟩:=I.list hx;have hlen:=r'.length;exact Calls.call_len_list pl.isList (by simp only[CY];omega) ⟨.int xs.length,H,I.tok _,⟨_,by simp only[CY];rw[hlen]⟩,q⟩
  ·subst e';obtain⟨its,r',pl,hz⟩:=I.tuple hx;have hlen:=r'.length;exact len_tuple pl (by simp only[CY];omega) ⟨.int xs.length,H,I.tok _,⟨_,by simp only[CY];rw[hlen]⟩,q⟩
 |_=>exact(show False from e).elim
end
structure ObjM(h:Heap)(x dx C:Addr)(mA:Str->Option CD):Prop where
 obj:h.get? x=some (IX C dx)
 ns:h.Ns1 dx mA
 ne:dx≠x
theorem qV{h:Heap}{dx:Addr}{mA:Str->Option CD}(n:h.Ns1 dx mA):∃od,h.get? dx=some od/\∀name,Jn name od=some (mA name):=by
 obtain⟨o,es,ep,ho,hd,hk,_,hm⟩:=n;refine⟨o,ho,fun name=>?_⟩;have e:=hm name;unfold nsFind findBy at e;rw[<-Array.find?_toList]at e;unfold Jn;rw[hd];dsimp only;split
 ·rename_i y q;rw[q]at e;exact congrArg some e
 ·rename_i q;rw[q]at e;have a:es.toList.any (·.refKey)=false:=by
   rw[List.any_eq_false];intro y hy;obtain⟨z,t,hkey⟩:=hk y<|Jo.mp hy;simp[DictEntry.refKey,hkey]
  have a':¬es.toList.any (·.refKey)=true:=by rw[a];exact CS
  rw[if_neg a'];exact congrArg some e
theorem ObjM.look{h:Heap}{x dx C:Addr}{mA:Str->Option CD}(I:ObjM h x dx C mA):∃od,GF h x (IX C dx) C (some od)/\∀name,Jn name od=some (mA name):=
 let ⟨od,ho,hl⟩:=qV I.ns
 ⟨od,⟨I.obj,rfl,rfl,ho⟩,hl⟩
theorem RelO.some_of{v:V}{o:Option CD}(r:RelO (some v) o):∃u,o=some u/\RelV v u:=by
 cases o with
 |none=>exact(show False from r).elim
 |some u=>exact⟨u,rfl,r⟩
section
variable{P:CT}{w:D6}{H H':Hp}{h h':Heap}{a C dx:Addr}{fs fs':List (Str×V)}
theorem w4(hok:HOk P w H h)(e:H a=some (.ins C dx fs)):∃mA,ObjM h a dx C mA/\(∀f,RelO (fs.lookup f)<|mA f)/\Mc mA (fs.map (·.1))/\fs.length<=1000/\H dx=some (.own a):=by
 obtain⟨d,z,ne,ob,mA,n,r,q⟩:=(show ObjOk P w H h a (.ins C dx fs)from hok a _ e)
 exact⟨mA,⟨ob,n,ne⟩,r,q,z,d⟩
end
structure Cls(K:CF)(C:Addr):Prop where
 pg:Kz K C M6=true
 hd:PySem.W.hasDictIn K C=true
 po:PySem.W.plainOver K C=true
 sa:CV K (.ref C) "__setattr__"=some (some<|.builtin "object.__setattr__")
theorem Cls.get{K:CF}{C:Addr}(c:Cls K C)(f:Str):Kz K C f=true:=c.pg
section
variable{X:Cx}{pins:List (Addr×Obj)}{σ:St}{H:Hp}{s:CH}{A:Dr}{E:CD->CH->Prop}{Q:CD->CH->Prop}{c:CD}{b:Bool}
inductive TyOf(K:CF)(H:Hp):V->CD->Prop where
 |non:TyOf K H .non (.type "NoneType")
 |bl (x:Bool):TyOf K H (.bl x) (.type "bool")
 |int (i:Int):TyOf K H (.int i) (.type "int")
 |str (x:Str):TyOf K H (.str x) (.type "str")
 |flt (x:UInt64):TyOf K H (.flt x) (.type "float")
 |lst {a:Addr} {xs:List V} (e:H a=some (.lst xs)):TyOf K H (.ref a) (.type "list")
 |frz {a:Addr} {o:Obj} {xs:List V} (e:H a=some (.frz o<|.lst xs)):TyOf K H (.ref a) (.type "list")
 |tup {a:Addr} {xs:List V} (e:SqT K H a xs):TyOf K H (.ref a) (.type "tuple")
 |dK {a:Addr} {kvs:List (Key×V)} (e:H a=some (.dK kvs)):TyOf K H (.ref a) (.type "dict")
 |dT {a:Addr} {kvs:List (List Key×V)} (e:H a=some (.dT kvs)):TyOf K H (.ref a) (.type "dict")
 | ins {a C dx:Addr} {fs:List (Str×V)} (e:H a=some (.ins C dx fs)) (cl:Cls K C) (ha:CV K (.ref C) "__class__" =some (some<|.builtin "object.__class__"))
   (hn:Kf K (.builtin "object.__class__") "__get__"=some (some<|.builtin "getset_descriptor.__get__")) (htk:KY K (.builtin "object.__class__")=some true)
   (hm:PySem.W.mroIn K C (.type "object")=some true):TyOf K H (.ref a) (.ref C)
theorem qW{x:V}{u t:CD}(I:Inv X pins σ H s)(rx:RelV x u)(ty:TyOf X.K H x t)(e:DR X.K t c=some b)(h:∀tk,Q (.bool b) {s with toks:=tk}):
  wpAny (model X.prog X.w) A (call (.builtin "isinstance") [u,c]) Q E s:=by
 cases ty with
 |non=>cases (show u=Df from rx);exact Eh PySem.W.kitx_none I.kIn G8 e (fun z=>nomatch z) h
 |bl y=>cases (show u=Ld y from rx);exact Eh PySem.W.kitx_bool I.kIn G8 e (fun z=>nomatch z) h
 |int i=>obtain⟨t,q⟩:=(show ∃t,u=Ip i t from rx);cases q;exact Eh PySem.W.kitx_int I.kIn G8 e (fun z=>nomatch z) h
 |str y=>obtain⟨t,q⟩:=(show ∃t,u=Kx y t from rx);cases q;exact Eh PySem.W.kitx_str I.kIn G8 e (fun z=>nomatch z) h
 |flt y=>obtain⟨t,q⟩:=(show ∃t,u=Mq y t from rx);cases q;exact Eh PySem.W.kitx_float I.kIn G8 e (fun z=>nomatch z) h
 | @lst a xs ea=>
  cases (show u=D8 a from rx);obtain⟨_,_,n,_,h1⟩:=(show ObjOk X.prog X.w H s.heap a (.lst xs)from I.hok a _ ea)
  exact Eh Kg I.kIn ⟨_,h1,rfl⟩ e (fun z=>nomatch z) h
 | @frz a ob xs ea=>
  cases (show u=D8 a from rx);obtain⟨_,_,_,n,_,h1⟩:=(show ObjOk X.prog X.w H s.heap a (.frz ob<|.lst xs)from I.hok a _ ea)
  exact Eh Kg I.kIn ⟨_,h1,rfl⟩ e (fun z=>nomatch z) h
 | @tup a xs ea=>
  cases (show u=D8 a from rx);obtain⟨_,_,p,_⟩:=I.tuple ea;obtain⟨o,h1,h2,_⟩:=p;exact Eh PySem.W.kitx_tuple I.kIn ⟨o,h1,h2⟩ e (fun z=>nomatch z) h
 | @dK a kvs ea=>
  cases (show u=D8 a from rx);obtain⟨_,_,vs,_,p⟩:=(show ObjOk X.prog X.w H s.heap a (.dK kvs)from I.hok a _ ea)
  obtain⟨o,es,ep,h1,h2,_⟩:=p;exact Eh Kh I.kIn ⟨o,h1,h2.1⟩ e (fun z=>nomatch z) h
 | @dT a kvs ea=>
  cases (show u=D8 a from rx);obtain⟨_,_,xs,_,o,es,ep,h1,h2,_⟩:=(show ObjOk X.prog X.w H s.heap a (.dT kvs)from I.hok a _ ea)
  exact Eh Kh I.kIn ⟨o,h1,h2.1⟩ e (fun z=>nomatch z) h
 | @ins a C dx fs ea cl ha hn htk hm=>
  cases (show u=D8 a from rx);obtain⟨mA,O,_⟩:=w4 I.hok ea;obtain⟨od,J,_⟩:=O.look;exact Eh (PySem.W.kitx_own (cl.get _) cl.hd ha hn htk hm) I.kIn J e (fun z=>nomatch z) h
end
structure Room(k:Nat)(A:Dr):Prop where
 hd:A.handled=none
 dp:A.depth+3*k+5<recursionLimit
 un:A.units+16*k+200<cLine
theorem Room.mono{j k:Nat}{A:Dr}(r:Room k A)(h:j<=k):Room j A:=⟨r.hd,by have:=r.dp;omega,by have:=r.un;omega⟩
theorem Room.deeper{k:Nat}{A:Dr}(r:Room (k+1) A)(env:Env):Room k (A.deeper env):=
 ⟨r.hd,by have:=r.dp;show A.depth+1+3*k+5<_;omega,by have:=r.un;show A.units+3+16*k+200<_;omega⟩
theorem Room.depth{k:Nat}{A:Dr}(r:Room k A):A.depth<recursionLimit:=by have:=r.dp;omega
theorem Room.units0{k:Nat}{A:Dr}(r:Room k A):A.units<cLine:=by have:=r.un;omega
def aQ:TA:=fun _ H Q=>Q [] H
def ak(ta:TE)(tr:TA):TA:=fun σ H Q=>ta σ H fun x H1=>tr σ H1 fun xs H2=>Q (x::xs) H2
section
variable{X:Cx}{e:Expr}{es:List Expr}{te:TE}{t:TA}{pos:Pos}
theorem aa:PA X [] aQ:=fun _ _ _ _ H Q I h=>Ki ⟨[],H,I,.nil,h⟩
theorem a8(ha:PE X e te)(hr:PA X es t)(hs:starEach (e::es) X.env=(false,eval e X.env)::starEach es X.env:=by rfl):PA X (e::es) (ak te t):=by
 intro pos pins s σ H Q I h;rw[hs];show wpAny _ _ (spliced ((false,eval e X.env)::backTo pos (starEach es X.env))) _ _ s;refine JQ<|bF (ha pins s σ H _ I h) fun u s1 zz=>?_;obtain⟨x,H1,I1,r1,q1⟩:=zz;refine bF (hr pos pins s1 σ H1 _ I1 q1) fun us s2 zz=>?_;obtain⟨xs,H2,I2,r2,q2⟩:=zz;exact⟨x::xs,H2,I2,.cons r1 r2,q2⟩
def cf(t:TA):TE:=fun σ H Q=>t σ H fun xs H1=>xs.length<=sizeLine/\∀p,H1 p=none->Q (.ref p) (cI H1 p<|.tup xs)
def cm(t:TA):TE:=fun σ H Q=>t σ H fun xs H1=>xs.length<=sizeLine/\∀p,H1 p=none->Q (.ref p) (cI H1 p<|.lst xs)
theorem bc{x1}(h:PA X es t):PE X (.Tuple es x1 pos) (cf t):=by
 intro pins s σ H Q I hq;refine wpAny_Tuple_spliced (bF (h pos pins s σ H _ I hq) fun us s1⟨xs,H1,I1,r,z,q⟩=>⟨by rw[<-r.length];exact z,?_⟩);have hf:H1 s1.heap.objs.size=none:=I1.hok.fresh<|CU _;refine⟨.ref s1.heap.objs.size,cI H1 s1.heap.objs.size<|.tup xs,I1.laid (t':=s1.toks) (fun b u e=>CB _ e) (CU _) ?_,rfl,q _ hf⟩;exact⟨z,us,r,⟨_,CM _ rfl,⟨rfl,rfl⟩,_,rfl⟩⟩
theorem bE(h:PA X es t):PE X (.List es pos) (cm t):=by
 intro pins s σ H Q I hq;refine wpAny_List_spliced (bF (h pos pins s σ H _ I hq) fun us s1⟨xs,H1,I1,r,z,q⟩=>⟨by rw[<-r.length];exact z,?_⟩);have hf:H1 s1.heap.objs.size=none:=I1.hok.fresh<|CU _;refine⟨.ref s1.heap.objs.size,cI H1 s1.heap.objs.size<|.lst xs,I1.laid (t':=s1.toks) (fun b u e=>CB _ e) (CU _) ?_,rfl,q _ hf⟩;exact⟨z,us,0,r,CM _ rfl⟩
end
abbrev Sp:=List V->Hp->VK->XK->Prop
abbrev CXT:=List Env->Hp->CH->XK->CD->CH->Prop
structure Env0(P:CT)(w:D6)(K:CF)(mg:Str->Option CD)(base:Heap)(A:Dr)(outer:List Env)(s:CH)(H:Hp):Prop where
 frames:A.frames=some outer
 mod:Mod K mg base
 bs:∀b o,base.get? b=some o->s.heap.get? b=some o/\H b=none
 bsz:base.objs.size<=s.heap.objs.size
 funs:s.heap.FunFrames base outer
 frf:∀b∈frs outer,H b=none
 hok:HOk P w H s.heap
 bare:Hy s.gens
def CE(outer:List Env)(P:CT)(w:D6)(H:Hp)(s:CH)(Q:VK)(u:CD)(s':CH):Prop:=
 ∃v H',s'.os=s.os/\Hy s'.gens/\Un (frs outer) [] H H' s.heap s'.heap/\HOk P w H' s'.heap/\RelV v u/\Q v H'
def CR(CX:CXT)(outer:List Env)(P:CT)(w:D6)(H:Hp)(s:CH)(Q:VK)(E:XK)(r:KA)(s':CH):Prop:=
 match r with
 | .ok (.ret u)=>CE outer P w H s Q u s'
 | .ok _=>False
 | .error e=>CX outer H s E e s'
structure FnOk(P:CT)(w:D6)(K:CF)(mg:Str->Option CD)(base:Heap)(CX:CXT)(k:Nat)(f:Addr)(fd:De)(ps:List Str)(sp:Sp):Prop where
 len:∀vs H Q E,sp vs H Q E->vs.length=ps.length
 run:∀(A:Dr)(outer:List Env)(s:CH)(H:Hp)(args:Args)(us:List CD)(vs:List V)(Q:VK)(E:XK),Room k A->Env0 P w K mg base A outer s H->JA s fd args (ps.zip us)->Vals vs us->sp vs H Q E->
  codeAny (model P w) A (.call (.ref f) args) (CR CX outer P w H s Q E) s
theorem FnOk.imp{P:CT}{w:D6}{K:CF}{mg:Str->Option CD}{base:Heap}{CX:CXT}{k:Nat}{f:Addr}{fd:De}{ps:List Str}{sp sp':Sp}(F:FnOk P w K mg base CX k f fd ps sp)
  (h:∀vs H Q E,sp' vs H Q E->sp vs H Q E):FnOk P w K mg base CX k f fd ps sp':=
 ⟨fun vs H Q E q=>F.len vs H Q E<|h _ _ _ _ q,fun A outer s H args us vs Q E hr he hb hv hs=>F.run A outer s H args us vs Q E hr he hb hv<|h _ _ _ _ hs⟩
section
variable{X:Cx}{pins:List (Addr×Obj)}{σ:St}{H:Hp}{s s':CH}
theorem Inv.env0(I:Inv X pins σ H s):Env0 X.prog X.w X.K X.mg X.base X.A X.stack s H:=
 ⟨I.ok.frames,I.ok.mod,I.bs,E9 I.ok.bsz I.sz,I.stack,I.stkFree,I.hok,I.bare⟩
theorem Inv.after{Q:VK}{u:CD}(I:Inv X pins σ H s)(h:CE X.stack X.prog X.w H s Q u s'):EP X pins σ Q u s':=by
 obtain⟨v,H',os,bare,un,hok,r,q⟩:=h;obtain⟨hh,g,d,t,os'⟩:=s';obtain rfl:os'=s.os:=os;exact⟨v,H',I.call (h':=hh) (g':=g) (d':=d) (t':=t) (ch:=[]) un hok bare (fun b z=>absurd z (by simp)),r,q⟩
end
def aN(sp:Sp)(dvs:List V)(E:XK)(t:TA):TE:=fun σ H Q=>t σ H fun vs H1=>sp (vs++dvs) H1 Q E
def Binds(K:CF)(fd:De)(ps:List Str)(ds:List CD):Prop:=
 ∀(s:CH)(us:List CD),K.In s.heap->(us++ds).length=ps.length->JA s fd ⟨us,[]⟩ (ps.zip<|us++ds)
theorem Binds.all{K:CF}{fd:De}{ps:List Str}(h:∀us:List CD,us.length=ps.length->bindArgs fd ⟨us,[]⟩=pure (ps.zip us)):Binds K fd ps []:=fun s us _ hl=>by
 rw[F1]at hl ⊢;exact .of_eq<|h us hl
def iy(CX:CXT)(X:Cx)(E:XK):Prop:=∀(pins:List (Addr×Obj))(σ:St)(H:Hp)(s:CH)(e:CD)(s':CH),Inv X pins σ H s->CX X.stack H s E e s'->X.xe e s'
section
variable{X:Cx}{CX:CXT}{k:Nat}{f C:Addr}{fd:De}{ps:List Str}{sp:Sp}{dvs:List V}{ds:List CD}{E:XK}{x m:Str}{p pos apos:Pos}{e o:Expr}{es:List Expr}{ta:TE}{t:TA}
theorem yp{pins:List (Addr×Obj)}{σ:St}{H:Hp}{s:CH}{Q:VK}{us:List CD}{vs:List V}(F:FnOk X.prog X.w X.K X.mg X.base CX k f fd ps sp)(hr:Room k X.A)(hb:Binds X.K fd ps ds)(hd:Vals dvs ds)(hx:iy CX X E)
  (I:Inv X pins σ H s) (r:Vals vs us) (h:sp (vs++dvs) H Q E):wpAny (model X.prog X.w) X.A (call (.ref f) us) (EP X pins σ Q) X.xe s:=by
 have r2:Vals (vs++dvs) (us++ds):=r.append hd;have hl:(us++ds).length=ps.length:=by rw[<-r2.length];exact F.len _ _ _ _ h
 refine JR<|GG (F.run X.A X.stack s H ⟨us,[]⟩ (us++ds) (vs++dvs) Q E hr I.env0 (hb s us I.kIn hl) r2 h) fun r s' hq=>?_;cases r with
 |error e=>exact hx pins σ H s e s' I hq
 |ok fl=>
  cases fl with
  |ret u=>exact I.after hq
  |next=>exact EO hq
  |brk=>exact EO hq
  |cont=>exact EO hq
theorem pO(F:FnOk X.prog X.w X.K X.mg X.base CX k f fd ps sp)(hr:Room k X.A)(hg:Gl X x)(hm:X.mg x=some (.ref f))(hk:EE X.K (.ref f)=true)(hb:Binds X.K fd ps ds)(hd:Vals dvs ds)(hx:iy CX X E)
  (ha:PA X (e::es) t) (hdb:(x==("__debug__" :Str))=false:=by decide) (he:starEach (e::es) X.env=(false,eval e X.env)::starEach es X.env:=by rfl) (hpl:(backTo pos<|starEach es X.env).any (·.1)=false:=by rfl):
  PE X (.Call (.Name x p) (e::es) [] pos) (aN sp dvs E t):=by
 intro pins s σ H Q I h;refine Gu<|gW I hg hm ?_ hdb;refine JS (h₀:=X.base) I.ok.mod.kin hk (bF (ha pos pins s σ H _ I h) fun us s1⟨vs,H1,I1,r,q⟩=>⟨I1.kIn,?_⟩) he hpl;exact yp F hr hb hd hx I1 r q
end
structure FnScope(N P:List Str)(sc:Fm):Prop where
 kind:sc.kind=.function
 co:sc.isCoroutine=false
 gen:sc.isGenerator=false
 nd:N.Nodup
 pre:N.take P.length=P
 par:∀x∈P,sc.names.lookup x=some .local\/sc.names.lookup x=some .cell
 nofree:∀y∈sc.names,y.2≠.free
theorem l5{kindOf:Str->Option FH}{x:Str}:∀{binds:List (Str×CD)}{m:Str->Option CD},(∀v,(x,v)∉binds)->bindL kindOf binds m x=m x
 | [],_,_=>rfl
 |(n,v)::r,m,h=>by
  unfold bindL;rw[l5 fun w hw=>h w<|D7 _ hw];split
  ·have:x≠n:=by rintro rfl;exact h v CZ
   simp[this]
  ·rfl
theorem l6{kindOf:Str->Option FH}{x:Str}:∀{binds:List (Str×CD)}{m:Str->Option CD},(∀v,(x,v)∉binds)->bindC kindOf binds m x=m x
 | [],_,_=>rfl
 |(n,v)::r,m,h=>by
  unfold bindC;rw[l6 fun w hw=>h w<|D7 _ hw];split;·rfl
  ·have:x≠n:=by rintro rfl;exact h v CZ
   simp[this]
theorem l7{kindOf:Str->Option FH}{x:Str}{v:CD}:∀{P:List Str}{vs:List CD}{i:Nat}{m:Str->Option CD},P.Nodup->P[i]? =some x->vs[i]? =some v->kindOf x=some .local->
  bindL kindOf (P.zip vs) m x=some v
 | [],_,_,_,_,h,_,_=>by simp at h
 |_::_,[],_,_,_,_,h,_=>by simp at h
 |p::P,w::vs,0,m,nd,h1,h2,hk=>by
  simp at h1 h2;subst h1;subst h2;show bindL kindOf ((p,w)::P.zip vs) m p=_;unfold bindL;rw[l5 fun v hv=>(Ea.mp nd).1 (FZ hv).1,if_pos hk];simp
 |p::P,w::vs,i+1,m,nd,h1,h2,hk=>by
  show bindL kindOf ((p,w)::P.zip vs) m x=_;unfold bindL;exact l7 (i:=i) (Ea.mp nd).2 (by simpa using h1) (by simpa using h2) hk
theorem l8{kindOf:Str->Option FH}{x:Str}{v:CD}:∀{P:List Str}{vs:List CD}{i:Nat}{m:Str->Option CD},P.Nodup->P[i]? =some x->vs[i]? =some v->kindOf x≠some .local->
  bindC kindOf (P.zip vs) m x=some v
 | [],_,_,_,_,h,_,_=>by simp at h
 |_::_,[],_,_,_,_,h,_=>by simp at h
 |p::P,w::vs,0,m,nd,h1,h2,hk=>by
  simp at h1 h2;subst h1;subst h2;show bindC kindOf ((p,w)::P.zip vs) m p=_;unfold bindC;rw[l6 fun v hv=>(Ea.mp nd).1 (FZ hv).1,if_neg hk];simp
 |p::P,w::vs,i+1,m,nd,h1,h2,hk=>by
  show bindC kindOf ((p,w)::P.zip vs) m x=_;unfold bindC;exact l8 (i:=i) (Ea.mp nd).2 (by simpa using h1) (by simpa using h2) hk
def start(N:List Str)(vs:List V):St:=vs.map some++ES (N.length-vs.length) none
def kI(CX:CXT)(P:CT)(w:D6)(K:CF)(mg:Str->Option CD)(base:Heap)(N:List Str)(qual:Str)(scope:Fm)(f:Addr)(cd:CD)(A:Dr)(outer:List Env)(s:CH)(H:Hp)(E:XK):Cx where
 prog:=P
 w:=w
 K:=K
 mg:=mg
 base:=base
 A:=A.deeper<|envOfC qual scope s.heap.objs.size f cd
 N:=N
 s₀:=s
 H₀:=H
 env:=envOfC qual scope s.heap.objs.size f cd
 outer:=outer
 stack:=envOfC qual scope s.heap.objs.size f cd::outer
 ex:=[]
 calm:=true
 fn:=fun _=>true
 pn:=[]
 xe:=fun e s'=>wpAny (model P w) (A.deeper<|envOfC qual scope s.heap.objs.size f cd) (leaving (envOfC qual scope s.heap.objs.size f cd) e) (fun _ s''=>CX outer H s E e s'') (fun e' s''=>CX outer H s E e' s'') s'
theorem mR{sc:Fm}{n:Nat}{x:Str}(h:sc.names.lookup x=some .cell):∃c,(cellsFrom n sc.names []).lookup x=some c:=by
 have q:=FT sc.names n []<|.inl h;exact Ie.mp q
theorem l9{CX:CXT}{P:CT}{w:D6}{K:CF}{mg:Str->Option CD}{base:Heap}{N ps:List Str}{qual:Str}{scope:Fm}{f:Addr}{cd:CD}{A:Dr}{outer:List Env}{s s1:CH}{H:Hp}{E:XK}{us:List CD}{vs:List V}
  (S:FnScope N ps scope) (hd:A.handled=none) (e0:Env0 P w K mg base A outer s H) (hl:vs.length=ps.length) (r:Vals vs us)
  (x:InCallC s s.heap.objs.size (bindL (envOfC qual scope s.heap.objs.size f cd).kindOf (ps.zip us) fun _=>none) (cellsFrom (s.heap.objs.size+1) scope.names []) (bindC (envOfC qual scope s.heap.objs.size f cd).kindOf (ps.zip us) fun _=>none) s1):
  Inv (kI CX P w K mg base N qual scope f cd A outer s H E) [] (start N vs) H s1:=by
 have hpl:ps.length<=N.length:=by have:=congrArg FP S.pre;rw[GX]at this;omega
 obtain⟨h1,tk,rfl,hk⟩:=x.done;have noA:∀b:Addr,b∉(kI CX P w K mg base N qual scope f cd A outer s H E).ex:=fun b z=>absurd (show b∈([]:List Addr)from z) (by simp);refine⟨⟨e0.mod,S.kind,rfl,rfl,CU _,fun y z c h1 h2=>?_,fun y hy=>?_,fun y c _ h=>?_,fun _=>hd,Jp e0.frames,.inr ⟨rfl,rfl⟩,fun b z=>absurd z<|noA b,e0.bs,e0.bsz,fun b _ _=>noA b,fun b z=>absurd z<|noA b,e0.funs,e0.frf⟩,
  rfl,e0.bare,Un.kept hk,⟨_,x.toInCall.ns,fun i y v h1 h2 h3=>?_⟩,fun y c h=>⟨_,x.cell y c h⟩,e0.hok.fresh (CU _),fun y c h=>?_,fun p hp=>absurd (show p∈([]:List (Addr×Obj))from hp) (by simp),e0.hok.kept hk,?_⟩
 ·exact name_of_addr x.apart (EB h1)<|EB h2
 ·have hy:scope.names.lookup y=some .cell\/scope.names.lookup y=some .free:=hy;rcases hy with hy|hy
  ·exact mR hy
  ·exact absurd rfl<|S.nofree _<|EB hy
 ·exact Fx<|x.above y c<|EB h
 ·have hi:i<vs.length:=by
   unfold start at h2;by_cases hi:i<vs.length;·exact hi
   ·rw[Dg (by simpa using hi)]at h2;rw[List.getElem?_replicate]at h2;split at h2<;>cases h2
  have ha:vs[i]? =some v:=by
   unfold start at h2;rw[Dq (by simpa using hi),CQ]at h2;cases e:vs[i]? with
   |none=>rw[e]at h2;cases h2
   |some a=>rw[e]at h2;cases h2;rfl
  obtain⟨u,hu,rv⟩:=r.get ha;have hp:ps[i]? =some y:=by
   rw[<-S.pre,F5 (by omega)];exact h1
  have ndP:ps.Nodup:=by rw[<-S.pre];exact S.nd.sublist<|List.take_sublist _ _
  refine⟨u,rv,?_⟩;rcases S.par y (Dh hp)with k|k
  ·exact .inl ⟨k,l7 ndP hp hu k⟩
  ·obtain⟨c,e⟩:=mR (n:=s.heap.objs.size+1) k;refine .inr ⟨.inl k,c,e,?_⟩;have q:=x.cell y c e;rw[l8 ndP hp hu (by show scope.names.lookup y≠_;rw[k];decide)]at q;exact q
 ·exact e0.hok.fresh<|Fx<|x.above y c<|EB h
 ·unfold start;show _=N.length;rw[DZ,Dc,List.length_replicate];omega
theorem xO{CX:CXT}{P:CT}{w:D6}{K:CF}{mg:Str->Option CD}{base:Heap}{k:Nat}{f:Addr}{name qual:Str}{params:Arguments}{body:List Stmt}{scope:Fm}{dV kV doc pm cdv ct oc:CD}{an od:Option Addr}
  {osl:Array (Option CD)} {N ps:List Str} {sp:Sp} (lk:K.lookup f=some ⟨oc,od,.func<|ET name qual params body scope dV kV doc pm an cdv ct,osl⟩) (hcd:FI K cdv qual=true) (S:FnScope N ps scope)
  (len:∀vs H Q E,sp vs H Q E->vs.length=ps.length)
  (hbody:∀(A:Dr) (outer:List Env) (s:CH) (H:Hp) (vs:List V) (Q:VK) (E:XK),Room k (A.deeper<|envOfC qual scope s.heap.objs.size f cdv)->sp vs H Q E->
   ∃t,PSs (kI CX P w K mg base N qual scope f cdv A outer s H E) body t/\t {nx:=fun _ H'=>Q .non H',rt:=Q} (start N vs) H):
  FnOk P w K mg base CX (k+1) f (ET name qual params body scope dV kV doc pm an cdv ct) ps sp:=by
 refine⟨len,fun A outer s H args us vs Q E hr e0 hb r hsp=>?_⟩;have hl:=len _ _ _ _ hsp;have KX:K.In s.heap:=e0.mod.kin.keeps fun b o e=>(e0.bs b o e).1;have lim:s.heap.NoLimit:=e0.mod.nolimit.keeps fun b o e=>(e0.bs b o e).1;have hkind:∀y∈ps.zip us,scope.names.lookup y.1=some .local\/(scope.names.lookup y.1=some .cell/\((cellsFrom (s.heap.objs.size+1) scope.names []).lookup y.1).isSome=true):=fun⟨n,v⟩hy=>by
  rcases S.par n (FZ hy).1 with q|q;·exact .inl q
  ·exact .inr ⟨q,FT _ _ _<|.inl q⟩
 refine J9 hr.depth (KX _ _ lk) rfl S.co S.gen rfl (JT KX hcd)<|hb _ _ _ _ ?_;refine HD S.kind hkind fun env he s1 x=>?_;subst he;refine⟨lim.keeps x.toInCall.keep,codeAny_func ?_⟩;obtain⟨t,ht,hq⟩:=hbody A outer s H vs Q E (hr.deeper _) hsp;have I:Inv (kI CX P w K mg base N qual scope f cdv A outer s H E) [] (start N vs) H s1:=l9 S hr.hd e0 hl r x;refine DW (ht [] s1 (start N vs) H _ I hq) (fun fl s' hs=>?_) fun e s' hs=>hs;have fin:∀{σ':St}{H':Hp}{v:V}{u:CD},Inv (kI CX P w K mg base N qual scope f cdv A outer s H E) [] σ' H' s'->RelV v u->Q v H'->CE outer P w H s Q u s':=
  fun{σ' H' v u}J rv q=>⟨v,H',J.os,J.bare,J.base,J.hok,rv,q⟩
 cases fl with
 |ret u=>
  obtain⟨v,σ',H',J,rv,q⟩:=hs;exact fin J rv q
 |next=>
  obtain⟨σ',H',J,q⟩:=hs;exact fin (v:=V.non) (u:=Df) J rfl q
 |brk=>
  obtain⟨_,_,_,q⟩:=hs;exact EO q
 |cont=>
  obtain⟨_,_,_,q⟩:=hs;exact EO q
section
variable{X:Cx}{x:Str}{p pos:Pos}{e:Expr}{es:List Expr}{t:TA}{id T:String}{r:List V->Hp->VK->Prop}
def dP(r:List V->Hp->VK->Prop)(t:TA):TE:=fun σ H Q=>t σ H fun vs H1=>r vs H1 Q
theorem ar(hc:dC X (.builtin id) r)(hg:Gl X x)(hm:X.mg x=none)(hv:bootBuiltins x=some (.builtin id))(ha:PA X (e::es) t)(hn:x≠"__name__":=by decide)(hdb:(x==("__debug__" :Str))=false:=by decide)
  (he:starEach (e::es) X.env=(false,eval e X.env)::starEach es X.env:=by rfl) (hpl:(backTo pos<|starEach es X.env).any (·.1)=false:=by rfl):PE X (.Call (.Name x p) (e::es) [] pos) (dP r t):=by
 intro pins s σ H Q I h;refine Gu<|fh I hg hm hv ?_ hn hdb;exact KC (bF (ha pos pins s σ H _ I h) fun us s1⟨vs,H1,I1,r1,q1⟩=>hc pins s1 σ H1 vs us Q I1 r1 q1) he hpl
theorem gr(hc:dC X (.type T) r)(hg:Gl X x)(hm:X.mg x=none)(hv:bootBuiltins x=some (.type T))(ha:PA X (e::es) t)(hn:x≠"__name__":=by decide)(hdb:(x==("__debug__" :Str))=false:=by decide)
  (he:starEach (e::es) X.env=(false,eval e X.env)::starEach es X.env:=by rfl) (hpl:(backTo pos<|starEach es X.env).any (·.1)=false:=by rfl):PE X (.Call (.Name x p) (e::es) [] pos) (dP r t):=by
 intro pins s σ H Q I h;refine Gu<|fh I hg hm hv ?_ hn hdb;exact E7 (bF (ha pos pins s σ H _ I h) fun us s1⟨vs,H1,I1,r1,q1⟩=>hc pins s1 σ H1 vs us Q I1 r1 q1) he hpl
end
end L2
open L2.FnScope renaming nd->MV
open L2.PW renaming pt->Jz
open L2.RelO renaming some_of->Mk
open L2.SqL renaming of->Fe
open L2.SqT renaming of->KQ
open L2.V renaming int->FO,str->GW,bl->N6
namespace HT
open PySem PyProof.Rows
section
open PySem.SeqAt
open PySem.AutoSeq1 (wpAny_loadPart')
open PySem.MeetsSeq PySem.MeetsSeq2 PySem.MeetsSeq3
end
section
variable{prog:CT}{w:D6}{A:Dr}{E:CD->CH->Prop}{s:CH}
def sIx(n d:Nat):Option Int->Nat
 |none=>d
 |some v=>if v<0 then(v+(n:Int)).toNat else min v.toNat n
theorem sIx_le(n d:Nat)(hd:d<=n)(o:Option Int):sIx n d o<=n:=by
 cases o with
 |none=>exact hd
 |some v=>
  show(if v<0 then(v+(n:Int)).toNat else min v.toNat n)<=n;by_cases hv:v<0;·rw[if_pos hv];omega
  ·rw[if_neg hv];exact Nat.min_le_right _ _
end
end HT
namespace L2
open PySem PySem.Spec PyProof.Rows
abbrev TO:=St->Hp->(Option Int->Hp->Prop)->Prop
def PO(X:Cx)(e:Option Expr)(t:TO):Prop:=
 ∀(pins:List (Addr×Obj))(s:CH)(σ:St)(H:Hp)(Q:Option Int->Hp->Prop),Inv X pins σ H s->t σ H Q->
  wpAny (model X.prog X.w) X.A (evalPart e X.env) (fun u s'=>∃o H',Inv X pins σ H' s'/\IsPart u o/\Q o H') X.xe s
def aK:TO:=fun _ H Q=>Q none H
def bu(t:TE):TO:=fun σ H Q=>t σ H fun x H1=>∃i,x=.int i/\Q (some i) H1
theorem jq{ns:List Int}:∀{us:List CD},Vals (ns.map FO) us->Kj us ns:=by
 induction ns with
 |nil=>intro us r;rw[FU]at r;cases r;exact .nil
 |cons n ns ih=>
  intro us r;rw[Dk]at r;cases r with
  |cons r1 r2=>
   obtain⟨t,e⟩:=r1;subst e;exact .cons n t<|ih r2
section
variable{X:Cx}{e:Expr}{te:TE}{lo hi:Option Expr}{tl th:TO}{pos p2:Pos}
theorem lN:PO X none aK:=by
 intro pins s σ H Q I h;rw[JH];exact CG ⟨none,H,I,.none,h⟩
theorem j8(h:PE X e te):PO X (some e) (bu te):=by
 intro pins s σ H Q I hw;rw[evalPart_some];refine bF (h pins s σ H _ I hw) fun u s1 zz=>?_;obtain⟨x,H1,I1,r1,q1⟩:=zz;obtain⟨i,rfl,q⟩:=q1;obtain⟨t,rfl⟩:=r1;exact⟨some i,H1,I1,.int i t,q⟩
def AN(X:Cx)(r:V->Option Int->Option Int->Hp->VK->Prop):Prop:=
 ∀(pins:List (Addr×Obj))(s:CH)(σ:St)(H:Hp)(x:V)(v vl vu:CD)(lo hi:Option Int)(sl:Addr)(Q:VK),Inv X pins σ H s->RelV x v->s.heap.IsSliceOf sl vl vu .none->IsPart vl lo->IsPart vu hi->r x lo hi H Q->
  ∃T id,typeLookup (.type T) "__getitem__"=pure (some<|.builtin id)/\s.TypeIs v T/\wpAny (model X.prog X.w) X.A (getItem v<|.ref sl) (EP X pins σ Q) X.xe s
def fu(r:V->Option Int->Option Int->Hp->VK->Prop)(te:TE)(tl th:TO):TE:=fun σ H Q=>te σ H fun x H1=>tl σ H1 fun l H2=>th σ H2 fun u H3=>r x l u H3 Q
theorem jr{r:V->Option Int->Option Int->Hp->VK->Prop}(hr:AN X r)(he:PE X e te)(hl:PO X lo tl)(hu:PO X hi th):PE X (.Subscript e (.Slice lo hi none p2) pos) (fu r te tl th):=by
 intro pins s σ H Q I h;refine JU<|bF (he pins s σ H _ I h) fun v s1 zz=>?_;obtain⟨x,H1,I1,r1,q1⟩:=zz;refine wpAny_Slice<|bF (hl pins s1 σ H1 _ I1 q1) fun vl s2 zz=>?_;obtain⟨l,H2,I2,pl,q2⟩:=zz;refine bF (hu pins s2 σ H2 _ I2 q2) fun vu s3 zz=>?_;obtain⟨u,H3,I3,pu,q3⟩:=zz;rw[JH];refine CG ?_;have I4:Inv X pins σ H3 {s3 with heap:=s3.heap.push {cls:=.type "slice",data:=.fields #[vl,vu,.none]}}:=I3.kept (t':=s3.toks) fun b ob q=>CB _ q;obtain⟨T,id,hT,ht,hg⟩:=hr pins {s3 with heap:=s3.heap.push {cls:=.type "slice",data:=.fields #[vl,vu,.none]}} σ H3 x v vl vu l u s3.heap.objs.size Q I4 r1 (JW ..) pl pu q3;show wpAny (model X.prog X.w) X.A (subscriptTail e (.Slice lo hi none p2) v<|.ref s3.heap.objs.size) (EP X pins σ Q) X.xe {s3 with heap:=s3.heap.push {cls:=.type "slice",data:=.fields #[vl,vu,.none]}};exact Mv (ops:=[.ref s3.heap.objs.size,v]) ht hT hg (by with_unfolding_all rfl)
def oC(xs:List V)(lo hi:Option Int):List V:=(xs.drop<|HT.sIx xs.length 0 lo).take (HT.sIx xs.length xs.length hi-HT.sIx xs.length 0 lo)
theorem mS(xs:List V)(lo hi:Option Int):(oC xs lo hi).length<=xs.length:=by
 unfold oC;rw[GX,KD];omega
end
def ixN(n:Nat)(i:Int):Option Nat:=if 0<=i then(if i<n then some i.toNat else none)else if -(n:Int)<=i then some (i+n).toNat else none
def atI{α:Type}(xs:List α)(i:Int):Option α:=(ixN xs.length i).bind fun j=>xs[j]?
theorem pP{n:Nat}{i:Int}{j:Nat}(h:ixN n i=some j):seqIndex? i n=some j/\j<n/\ -(n:Int)<=i/\i<n:=by
 unfold ixN at h;by_cases h0:0<=i
 ·rw[if_pos h0]at h;by_cases h1:i<n
  ·rw[if_pos h1]at h;have e:i.toNat=j:=Dp h;exact⟨by rw[KR h0 h1,e],by omega,by omega,h1⟩
  ·rw[if_neg h1]at h;cases h
 ·rw[if_neg h0]at h;by_cases h1: -(n:Int)<=i
  ·rw[if_pos h1]at h;have e:(i+n).toNat=j:=Dp h;exact⟨by rw[Kk (by omega) h1,e],by omega,h1,by omega⟩
  ·rw[if_neg h1]at h;cases h
theorem lO{α:Type}{xs:List α}{i:Int}{v:α}(h:atI xs i=some v):∃j,seqIndex? i xs.length=some j/\xs[j]? =some v/\j<xs.length/\ -(xs.length:Int)<=i/\i<xs.length:=by
 unfold atI at h;cases e:ixN xs.length i with
 |none=>rw[e]at h;cases h
 |some j=>
  rw[e]at h;obtain⟨h1,h2,h3,h4⟩:=pP e;exact⟨j,h1,h,h2,h3,h4⟩
def w5(b:Expr):Prop:=∀o i,subscripted b false o i=operate [o,i] (getItem o i)
def zD(X:Cx)(r:R2):Prop:=
 ∀(value slice:Expr)(pins:List (Addr×Obj))(s:CH)(σ:St)(H:Hp)(x y:V)(v u:CD)(Q:VK),Inv X pins σ H s->RelV x v->RelV y u->r x y H Q->
  subscripted slice false v u=operate [v,u] (getItem v u)->wpAny (model X.prog X.w) X.A (subscriptTail value slice v u) (EP X pins σ Q) X.xe s
def A0(X:Cx)(id:String)(r:V->List V->Hp->VK->Prop):Prop:=
 ∀(pins:List (Addr×Obj))(s:CH)(σ:St)(H:Hp)(x:V)(xs:List V)(v:CD)(us:List CD)(Q:VK),Inv X pins σ H s->RelV x v->Vals xs us->r x xs H Q->
  wpAny (model X.prog X.w) X.A (call (.builtin id) (v::us)) (EP X pins σ Q) X.xe s
section
variable{X:Cx}{a b:Expr}{ta tb:TE}{pos:Pos}
theorem aH{r:R2}(hr:zD X r)(ha:PE X a ta)(hb:PE X b tb)(hs:w5 b):PE X (.Subscript a b pos) (df r ta tb):=by
 intro pins s σ H Q I h;exact JU<|yo ha hb I h fun v u s2 x y H2 I2 rx ry q=>hr a b pins s2 σ H2 x y v u Q I2 rx ry q<|hs _ _
def cn(K:CF):R2:=fun x y H Q=>∃p xs i v,x=.ref p/\y=.int i/\SqL K H p xs/\atI xs i=some v/\Q v H
def cy(K:CF):R2:=fun x y H Q=>∃p xs i v,x=.ref p/\y=.int i/\SqT K H p xs/\atI xs i=some v/\Q v H
def cG:R2:=fun x y H Q=>∃z i c,x=.str z/\y=.int i/\z.length<=sizeLine/\atI z.cps.toList i=some c/\Q (.str ⟨#[c]⟩) H
theorem w6:zD X (cn X.K):=by
 intro value slice pins s σ H x y v u Q I rx ry h hs;obtain⟨p,xs,i,z,rfl,rfl,hq,he,q⟩:=h;cases rx;obtain⟨t,rfl⟩:=ry;obtain⟨its,r,pl,hz⟩:=I.list hq;obtain⟨j,h1,h2,h3,h4,h5⟩:=lO he;obtain⟨w,ew,rw'⟩:=r.get h2;have hl:=r.length;have hn:=jn;have fin:EP X pins σ Q w s:=⟨z,H,I,rw',q⟩
 by_cases h0:0<=i
 ·have hj:i.toNat=j:=by
   rw[KR h0 h5]at h1;exact Dp h1
  exact item_listR pl.isList h0 (by omega) (by rw[hj];simpa using ew) fin hs
 ·have hj:(i+(its.toArray.size:Int)).toNat=j:=by
   rw[Kk (by omega) h4]at h1;rw[CY,<-hl];exact Dp h1
  exact IK (x:=w) pl.isList.typeIs HW.lookup
   (wpAny_getItem_list_neg (Q:=fun r s'=>r=w/\EP X pins σ Q r s') pl.isList (by omega) (by rw[CY]<;>omega) (by omega) (by rw[hj];simpa using ew) ⟨rfl,fin⟩) hs
theorem yq:zD X (cy X.K):=by
 intro value slice pins s σ H x y v u Q I rx ry h hs;obtain⟨p,xs,i,z,rfl,rfl,hq,he,q⟩:=h;cases rx;obtain⟨t,rfl⟩:=ry;obtain⟨its,r,pl,hz⟩:=I.tuple hq;obtain⟨j,h1,h2,h3,h4,h5⟩:=lO he;obtain⟨w,ew,rw'⟩:=r.get h2;have hl:=r.length;have hn:=jn;have fin:EP X pins σ Q w s:=⟨z,H,I,rw',q⟩
 exact IK (x:=w) pl.typeIs slot_tuple_getitem.lookup
  (getItem_tuple (j:=j) (Q:=fun r s'=>r=w/\EP X pins σ Q r s') pl (by omega) (by omega) (by rw[CY,<-hl];exact h1) (by simpa using ew) ⟨rfl,fin⟩) hs
theorem cq:zD X cG:=by
 intro value slice pins s σ H x y v u Q I rx ry h hs;obtain⟨z,i,c,rfl,rfl,hz,he,q⟩:=h;obtain⟨t,rfl⟩:=rx;obtain⟨t',rfl⟩:=ry;obtain⟨j,h1,h2,h3,h4,h5⟩:=lO he;have hl:z.cps.toList.length=z.length:=by simp[MO]
 rw[hl]at h1 h4 h5;have hn:=jn;exact Mv (Lh s z t) slot_str_getitem.lookup (getItem_str (c:=c) (by
  have e1:decide (i< -(2^63:Int))=false:=decide_eq_false (by omega);have e2:decide (i≥2^63)=false:=decide_eq_false (by omega);rw[e1,e2,Bool.or_false]) (by rw[h1];simpa using h2) ⟨.str ⟨#[c]⟩,H,I.tok _,⟨_,rfl⟩,q⟩) hs
theorem oD(its:List CD)(n j:Nat)(u:CD):Fg (·.setIfInBounds j u) {cls:=.type "list",data:=.seq its.toArray n}={cls:=.type "list",data:=.seq (its.set j u).toArray n}:=by
 simp[Fg]
theorem Inv.lst{pins:List (Addr×Obj)}{σ:St}{H:Hp}{s:CH}{p:Addr}{xs:List V}(I:Inv X pins σ H s)(h:H p=some (.lst xs)):
  ∃(its:List CD)(n:Nat),Vals xs its/\s.heap.get? p=some {cls:=.type "list",data:=.seq its.toArray n}/\xs.length<=sizeLine:=by
 obtain⟨z,its,n,r,e⟩:=I.hok p _ h;exact⟨its,n,r,e,z⟩
theorem Inv.lstUpd{pins:List (Addr×Obj)}{σ:St}{H:Hp}{s:CH}{p:Addr}{xs ys:List V}{its its':List CD}{n n':Nat}{f:Obj->Obj}(I:Inv X pins σ H s)(h:H p=some (.lst xs))
  (ho:s.heap.get? p=some {cls:=.type "list",data:=.seq its.toArray n}) (hf:f {cls:=.type "list",data:=.seq its.toArray n}={cls:=.type "list",data:=.seq its'.toArray n'}) (r:Vals ys its') (hz:ys.length<=sizeLine) (t:Nat):
  Inv X pins σ (cI H p<|.lst ys) {s with heap:=s.heap.update p f,toks:=t}:=by
 have e:(s.heap.update p f).get? p=some {cls:=.type "list",data:=.seq its'.toArray n'}:=by
  rw[DS f ho (by rw[hf]<;>rfl),hf]
 refine I.write (x:=p) (e:=p) (by rw[h];trivial) (.inl rfl) (fun b u hb q=>(Du _ _<|F3 hb).trans q) ⟨_,e⟩ ?_;exact⟨hz,its',n',r,e⟩
def xP:V->V->V->Hp->(Hp->Prop)->Prop:=fun o i v H Q=>∃p xs k j,o=.ref p/\i=.int k/\H p=some (.lst xs)/\ixN xs.length k=some j/\Q (cI H p<|.lst<|xs.set j v)
theorem mT:zU X xP:=by
 intro pins s σ H o i v ov iv u Q I ro ri rv h;obtain⟨p,xs,k,j,rfl,rfl,hp,hj,q⟩:=h;cases ro;obtain⟨t,rfl⟩:=ri;obtain⟨its,n,r,ho,hz⟩:=I.lst hp;obtain⟨h1,h2,h3,h4⟩:=pP hj;have hl:=r.length;have hn:=jn;have I':Inv X pins σ (cI H p<|.lst<|xs.set j v) {s with heap:=s.heap.update p (Fg (·.setIfInBounds j u))}:=
  I.lstUpd hp ho (oD its n j u) (r.set rv j) (by rw[List.length_set];exact hz) s.toks
 by_cases h0:0<=k
 ·have hk:k.toNat=j:=by
   rw[KR h0 h4]at h1;exact Dp h1
  exact PySem.W.ki_setAt ho h0 (by omega) (by rw[CY,<-hl];exact h4) (by rw[hk];exact⟨_,I',q⟩)
 ·have hk:(k+(its.toArray.size:Int)).toNat=j:=by
   rw[Kk (by omega) h3]at h1;rw[CY,<-hl];exact Dp h1
  exact PySem.W.ki_setBack ho (by omega) (by rw[CY,<-hl];exact h3) (by omega) (by rw[hk];exact⟨_,I',q⟩)
theorem lP(lo hi:Option Int)(n:Nat):(sliceBounds lo hi none n).1=((HT.sIx n 0 lo:Nat):Int)/\(sliceBounds lo hi none n).2.1=((HT.sIx n n hi:Nat):Int)/\(sliceBounds lo hi none n).2.2=1:=by
 refine⟨?_,?_,rfl⟩
 ·cases lo with
  |none=>simp[sliceBounds,HT.sIx]
  |some i=>
   simp only[sliceBounds,HT.sIx,Ir,show(1:Int)>0 by decide,if_true];by_cases h:i<0;·simp only[h,if_true]<;>omega
   ·simp only[h,if_false]<;>omega
 ·cases hi with
  |none=>simp[sliceBounds,HT.sIx]
  |some i=>
   simp only[sliceBounds,HT.sIx,Ir,show(1:Int)>0 by decide,if_true];by_cases h:i<0;·simp only[h,if_true]<;>omega
   ·simp only[h,if_false]<;>omega
theorem kJ(its:List CD)(lo hi:Option Int):slicePick its.toArray lo hi none=((its.drop<|HT.sIx its.length 0 lo).take (HT.sIx its.length its.length hi-HT.sIx its.length 0 lo)).toArray:=by
 obtain⟨h1,h2,h3⟩:=lP lo hi its.toArray.size;unfold slicePick;rw[h1,h2,h3];simp only[Jq,pick_run,CY]<;>rfl
def cz(K:CF):V->Option Int->Option Int->Hp->VK->Prop:=fun x lo hi H Q=>∃a xs,x=.ref a/\SqL K H a xs/\∀p,H p=none->Q (.ref p) (cI H p<|.lst<|oC xs lo hi)
theorem w8:AN X (cz X.K):=by
 intro pins s σ H x v vl vu lo hi sl Q I rx hs pl pu h;obtain⟨a,xs,rfl,hx,q⟩:=h;cases rx;obtain⟨its,r,ht,hz⟩:=I.list hx;have hlen:=r.length;refine⟨"list",_,HW.lookup,ht.isList.typeIs,?_⟩;refine Ig ht.isList hs pl pu .none (by simp) ?_ (by rw[CY]<;>omega);rw[kJ,<-hlen];refine⟨.ref s.heap.objs.size,_,I.laid (t':=s.toks) (o:=.lst<|oC xs lo hi) (fun b ob q=>CB _ q) (CU _) ?_,rfl,q _<|I.hok.fresh<|CU _⟩;exact⟨E9 (mS xs lo hi) hz,_,0,(r.drop<|HT.sIx xs.length 0 lo).take (HT.sIx xs.length xs.length hi-HT.sIx xs.length 0 lo),CM _ rfl⟩
def flatV:V->Bool
 | .non=>true
 | .bl _=>true
 | .int _=>true
 | .str _=>true
 |_=>false
def eqV:V->V->Bool
 | .non,.non=>true
 | .bl a,.bl b=>a==b
 | .bl a,.int b=>(if a then 1 else 0)==b
 | .int a,.bl b=>a==(if b then 1 else 0)
 | .int a,.int b=>a==b
 | .str a,.str b=>a==b
 |_,_=>false
theorem yr{A:Dr}{s:CH}{y x:V}{u v:CD}(ry:RelV y u)(rx:RelV x v)(fy:flatV y=true)(fx:flatV x=true):MP A s u v (eqV y x):=by
 cases y with
 |non=>
  cases ry;cases x with
  |non=>cases rx;exact N9 _
  |bl b=>cases rx;exact Mw b
  |int b=>obtain⟨t,rfl⟩:=rx;exact MF b t
  |str b=>obtain⟨t,rfl⟩:=rx;exact MG b t
  |_=>exact absurd (show false=true from fx) CS
 |bl a=>
  cases ry;cases x with
  |non=>cases rx;exact Mx a
  |bl b=>cases rx;exact My a b
  |int b=>obtain⟨t,rfl⟩:=rx;exact MH a b t
  |str b=>obtain⟨t,rfl⟩:=rx;exact MI a b t
  |_=>exact absurd (show false=true from fx) CS
 |int a=>
  obtain⟨t',rfl⟩:=ry;cases x with
  |non=>cases rx;exact MJ a t'
  |bl b=>cases rx;exact MK a t' b
  |int b=>obtain⟨t,rfl⟩:=rx;exact MQ a t' b t
  |str b=>obtain⟨t,rfl⟩:=rx;exact JO a t' b t
  |_=>exact absurd (show false=true from fx) CS
 |str a=>
  obtain⟨t',rfl⟩:=ry;cases x with
  |non=>cases rx;exact ML a t'
  |bl b=>cases rx;exact MM a t' b
  |int b=>obtain⟨t,rfl⟩:=rx;exact JP a t' b t
  |str b=>obtain⟨t,rfl⟩:=rx;exact MR a t' b t
  |_=>exact absurd (show false=true from fx) CS
 |_=>exact absurd (show false=true from fy) CS
def w9(x:V)(u:CD):Bool:=match u with
 | .none=>eqV .non x
 | .bool b=>eqV (.bl b) x
 | .int i _=>eqV (.int i) x
 | .str z _=>eqV (.str z) x
 |_=>false
theorem sR{x y:V}{u:CD}(r:RelV y u)(f:flatV y=true):w9 x u=eqV y x:=by
 cases y with
 |non=>cases r;rfl
 |bl b=>cases r;rfl
 |int i=>obtain⟨t,rfl⟩:=r;rfl
 |str z=>obtain⟨t,rfl⟩:=r;rfl
 |_=>exact absurd (show false=true from f) CS
theorem lQ{x:V}:∀{xs:List V}{us:List CD},Vals xs us->xs.all flatV=true->us.any (w9 x)=xs.any fun y=>eqV y x
 |_,_,.nil,_=>rfl
 |y::xs,u::us, .cons r t,f=>by
  rw[LQ,Ge]at f;rw[Hd,Hd,sR r f.1,lQ t f.2]
theorem js{A:Dr}{s:CH}{x:V}{v:CD}(rx:RelV x v)(fx:flatV x=true):∀{xs:List V}{us:List CD},Vals xs us->xs.all flatV=true->∀u∈us,MP A s u v (w9 x u)
 |_,_,.nil,_=>fun u hu=>by cases hu
 |y::xs,u::us, .cons r t,f=>fun u' hu=>by
  rw[LQ,Ge]at f;rcases CW.mp hu with rfl|hu
  ·rw[sR r f.1];exact yr r rx f.1 fx
  ·exact js rx fx t f.2 u' hu
def AO(x:V)(xs:List V):Bool:=xs.any fun y=>eqV y x
def fL(K:CF)(neg:Bool):R2:=fun x y H Q=>∃p xs,y=.ref p/\(SqL K H p xs\/SqT K H p xs)/\flatV x=true/\xs.all flatV=true/\Q (.bl (if neg then !AO x xs else AO x xs)) H
theorem lR:OpR X (compareOp .NotIn) (fL X.K true):=by
 intro pins s σ H x y v u Q I rx ry h;obtain⟨p,xs,rfl,hq,fx,fs,q⟩:=h;cases ry;rcases hq with hq|hq
 ·obtain⟨its,r,pl,hz⟩:=I.list hq;refine SeqAt.notIn_listAt (w9 x) pl.isList (fun w hw=>js rx fx r fs w (by simpa using hw)) ⟨.bl _,H,I,rfl,?_⟩;rw[show its.toArray.any (w9 x)=its.any (w9 x) by simp,lQ r fs];exact q
 ·obtain⟨its,r,pl,hz⟩:=I.tuple hq;refine SeqAt.notIn_tupleAt (w9 x) pl (fun w hw=>js rx fx r fs w (by simpa using hw)) ⟨.bl _,H,I,rfl,?_⟩;rw[show its.toArray.any (w9 x)=its.any (w9 x) by simp,lQ r fs];exact q
theorem lS:dC X (.type "list") (fun xs H Q=>∃p ys,xs=[.ref p]/\(SqL X.K H p ys\/SqT X.K H p ys)/\∀l,H l=none->Q (.ref l) (cI H l<|.lst ys)):=by
 intro pins s σ H xs us Q I r h;obtain⟨p,ys,rfl,hq,q⟩:=h;obtain⟨u,rfl,rx⟩:=f9 r;cases rx;have fin:∀(its:List CD),Vals ys its->ys.length<=sizeLine->∀(h':Heap)(c':Nat),(∀b o',s.heap.get? b=some o'->h'.get? b=some o')->
   h'.get? s.heap.objs.size=some {cls:=.type "list",dict:=none,data:=.seq its.toArray c',slots:= #[]}->EP X pins σ Q (.ref s.heap.objs.size) {s with heap:=h'}:=fun its r' hz h' c' kp e=>
  ⟨.ref s.heap.objs.size,_,I.laid (t':=s.toks) kp (CU _) (show ObjOk X.prog X.w _ h' _ (.lst ys)from⟨hz,its,c',r',e⟩),rfl,q _<|I.hok.fresh<|CU _⟩
 rcases hq with hq|hq
 ·obtain⟨its,r',pl,hz⟩:=I.list hq;have hlen:=r'.length;obtain⟨o,ho,hc,n,hd⟩:=pl.isList;exact LS p (.inl rfl) ho hc hd (fun h' c' kp e=>fin its r' hz h' c' kp e) (by simp only[CY]<;>omega)
 ·obtain⟨its,r',pl,hz⟩:=I.tuple hq;have hlen:=r'.length;obtain⟨o,ho,hc,n,hd⟩:=pl;exact LS p (.inr rfl) ho hc hd (fun h' c' kp e=>fin its r' hz h' c' kp e) (by simp only[CY]<;>omega)
theorem kK:dC X (.type "tuple") (fun xs H Q=>∃p ys,xs=[.ref p]/\((SqL X.K H p ys/\∀l,H l=none->Q (.ref l) (cI H l<|.tup ys))\/(SqT X.K H p ys/\Q (.ref p) H))):=by
 intro pins s σ H xs us Q I r h;obtain⟨p,ys,rfl,h⟩:=h;obtain⟨u,rfl,rx⟩:=f9 r;cases rx;rcases h with⟨hq,q⟩|⟨hq,q⟩
 ·obtain⟨its,r',pl,hz⟩:=I.list hq;have hlen:=r'.length;refine call_tuple_list pl.isList (fun h' kp=>?_) (by simp only[CY]<;>omega);have I1:Inv X pins σ H {s with heap:=h'}:=I.kept (t':=s.toks) kp;have I2:Inv X pins σ (cI H h'.objs.size<|.tup ys) {s with heap:=h'.push {cls:=.type "tuple",data:=.seq its.toArray}}:=
   I1.laid (t':=s.toks) (fun b o e=>CB _ e) (CU _) (show ObjOk X.prog X.w _ _ _ (.tup ys)from⟨hz,its,r',IsTupD.new _ _⟩)
  exact⟨.ref h'.objs.size,_,I2,rfl,q _<|I1.hok.fresh<|CU _⟩
 ·obtain⟨its,r',pl,hz⟩:=I.tuple hq;exact call_tuple_same pl ⟨.ref p,H,I,rfl,q⟩
def By(K:CF)(T:String)(x:V)(H:Hp):Prop:=match x with
 | .str _=>T="str"
 | .int _=>T="int"
 | .ref p=>(T="list" /\∃xs,SqL K H p xs)\/(T="tuple" /\((∃o,K.lookup p=some o/\o.cls=.type "tuple" /\o.dict=none)\/∃xs,SqT K H p xs))\/
   (T="dict"/\((∃kvs,H p=some (.dK kvs))\/∃kvs,H p=some (.dT kvs)))\/(T="set"/\∃S n,H p=some (.set S n))
 |_=>False
theorem yt{pins:List (Addr×Obj)}{σ:St}{H:Hp}{s:CH}{T:String}{x:V}{v:CD}(I:Inv X pins σ H s)(r:RelV x v)(ty:By X.K T x H):
  s.TypeIs v T/\∀a,v=.ref a->∃ob,s.heap.get? a=some ob/\ob.dict=none:=by
 cases x with
 |str z=>
  obtain⟨t,rfl⟩:=r;cases (show T="str" from ty);exact⟨Lh s z t,fun _ e=>nomatch e⟩
 |int i=>
  obtain⟨t,rfl⟩:=r;cases (show T="int" from ty);exact⟨typeIs_int s i t,fun _ e=>nomatch e⟩
 |ref p=>
  cases r;rcases ty with⟨rfl,xs,hq⟩|⟨rfl,⟨o,hk,hc,hd⟩|⟨xs,hq⟩⟩|⟨rfl,hk⟩|⟨rfl,S,n,hk⟩
  ·obtain⟨its,_,pl,_⟩:=I.list hq;refine⟨pl.isList.typeIs,fun a e=>?_⟩;cases e;obtain⟨o,n,e,c,hd,_⟩:=pl;exact⟨o,e,hd⟩
  ·refine⟨⟨o,I.kIn p o hk,hc⟩,fun a e=>?_⟩;cases e;exact⟨o,I.kIn _ o hk,hd⟩
  ·obtain⟨o,e1,c1,d1⟩:∃o,s.heap.get? p=some o/\o.cls=.type "tuple"/\o.dict=none:=by
    rcases hq with hq|⟨o,its,n,hk,hc,_⟩
    ·obtain⟨_,_,_,o,e1,⟨c1,d1⟩,_⟩:=hq.ok I.hok;exact⟨o,e1,c1,d1⟩
    ·exact⟨o,I.kIn p o hk,hc.1,hc.2⟩
   refine⟨⟨o,e1,c1⟩,fun a e=>?_⟩;cases e;exact⟨o,e1,d1⟩
  ·have z:∃o,s.heap.get? p=some o/\o.ExactDict:=by
    rcases hk with⟨kvs,hk⟩|⟨kvs,hk⟩
    ·obtain⟨_,_,_,_,o,_,_,e,ex,_⟩:=I.hok p _ hk;exact⟨o,e,ex⟩
    ·obtain⟨_,_,_,_,o,_,_,e,ex,_⟩:=I.hok p _ hk;exact⟨o,e,ex⟩
   obtain⟨o,e,ex⟩:=z;refine⟨⟨o,e,ex.1⟩,fun a e2=>?_⟩;cases e2;exact⟨o,e,ex.2.1⟩
  ·obtain⟨o,_,_,_,e,ex,_⟩:=I.hok p _ hk;refine⟨⟨o,e,ex.1⟩,fun a e2=>?_⟩;cases e2;exact⟨o,e,ex.2.1⟩
 |_=>exact EO ty
def eO(K:CF)(T:String)(r:V->List V->Hp->VK->Prop)(to:TE)(t:TA):TE:=fun σ H Q=>to σ H fun x H1=>By K T x H1/\t σ H1 fun xs H2=>r x xs H2 Q
variable{o e:Expr}{es:List Expr}{to:TE}{t:TA}{name:Str}{apos cpos:Pos}{T id:String}{r:V->List V->Hp->VK->Prop}
theorem A1(pa:PlainAttrs T)(slot:Slot T name id)(hty:typeOf (.builtin id)=pure (.type "method_descriptor"))(hm:A0 X id r)(ho:PE X o to)(ha:PA X (e::es) t)
  (hbase:attributeBase o name X.env (eval o X.env)=eval o X.env:=by rfl)
  (hfew:((backTo cpos<|starEach (e::es) X.env).all (fun x=> !x.1) && (backToKw cpos<|keywordEach [] X.env).all (fun x=>x.1.isSome)
   &&decide ((e::es).length+([]:List IL).length+(if([]:List IL).isEmpty then 0 else 1)<30))=true:=by rfl)
  (hline:(apos.endLine==cpos.line)=true:=by rfl) (hs:starEach (e::es) X.env=(false,eval e X.env)::starEach es X.env:=by rfl) (hplain:(backTo cpos<|starEach es X.env).any (·.1)=false:=by rfl):
  PE X (.Call (.Attribute o name apos) (e::es) [] cpos) (eO X.K T r to t):=by
 intro pins s σ H Q I h;refine IM hbase hfew hline rfl<|bF (ho pins s σ H _ I h) fun v s1 zz=>?_;obtain⟨x,H1,I1,r1,ty,q1⟩:=zz;obtain⟨h1,h2⟩:=yt I1 r1 ty;refine⟨T,id,pa,slot,hty,h1,h2,?_⟩;have hA:=ha cpos pins s1 σ H1 _ I1 q1;rw[hs]at hA ⊢;refine Calls.callWith_builtin (by show(false||(backTo cpos<|starEach es X.env).any (·.1))=false;rw[hplain]<;>rfl)<|Jr ?_;refine bF hA fun us s2 zz=>?_;obtain⟨vs,H2,I2,r2,q2⟩:=zz;exact hm pins s2 σ H2 x vs v us Q I2 r1 r2 q2
end
def BQ(X:Cx)(id:String)(r:V->List V->Hp->VK->Prop):Prop:=
 ∀(pins:List (Addr×Obj))(s:CH)(σ:St)(H:Hp)(x:V)(xs:List V)(v:CD)(us:List CD)(Q:VK),Inv X pins σ H s->RelV x v->Vals xs us->r x xs H Q->
  wpAny (model X.prog X.w) X.A (call (.builtin id) (v::us)) (EP X pins σ Q) X.xe s
theorem Vals.one:∀{x:V}{us:List CD},Vals [x] us->∃u,us=[u]/\RelV x u
 |_,_,.cons r .nil=>⟨_,rfl,r⟩
section
variable{X:Cx}{pins:List (Addr×Obj)}{σ:St}{H:Hp}{s:CH}{l b:Addr}{xs ys zs:List V}
theorem Inv.lset{its its':List CD}{n:Nat}{f:Array CD->Array CD}{t':Nat}(I:Inv X pins σ H s)(hH:H l=some (.lst xs))
  (e:s.heap.get? l=some {cls:=.type "list",data:=.seq its.toArray n}) (hf:f its.toArray=its'.toArray) (hv:Vals ys its') (hz:ys.length<=sizeLine):
  Inv X pins σ (cI H l<|.lst ys) {s with heap:=s.heap.update l<|Fg f,toks:=t'}:=by
 have q:=PySem.IsL.update e f;rw[hf]at q;refine I.write (x:=l) (e:=l) (by rw[hH];exact trivial) (.inl rfl) (fun b' u hb hu=>(Du s.heap (Fg f)<|F3 hb).trans hu) ⟨_,q⟩ ?_;exact⟨hz,its',_,hv,q⟩
theorem Inv.lnew{its:List CD}{t':Nat}(I:Inv X pins σ H s)(hv:Vals ys its)(hz:ys.length<=sizeLine):
  Inv X pins σ (cI H s.heap.objs.size<|.lst ys) {s with heap:=s.heap.push {cls:=.type "list",data:=.seq its.toArray},toks:=t'}:=
 I.laid (fun _ _ q=>CB _ q) (CU _) ⟨hz,its,0,hv,CM _ rfl⟩
theorem Inv.fresh(I:Inv X pins σ H s):H s.heap.objs.size=none:=I.hok.fresh<|CU _
theorem Inv.lstM(I:Inv X pins σ H s)(hH:H l=some (.lst xs)):xs.length<=sizeLine/\∃(its:List CD)(n:Nat),Vals xs its/\xs.length=its.length/\s.heap.get? l=some {cls:=.type "list",data:=.seq its.toArray n}:=by
 obtain⟨z,its,n,r,e⟩:=I.hok l _ hH;exact⟨z,its,n,r,r.length,e⟩
end
section
variable{X:Cx}
def aF:V->List V->Hp->VK->Prop:=fun x vs H Q=>∃l xs y,x=.ref l/\vs=[y]/\H l=some (.lst xs)/\xs.length<sizeLine/\Q .non (cI H l<|.lst<|xs++[y])
theorem qX:BQ X "list.append" aF:=by
 intro pins s σ H x vs v us Q I rx rv h;obtain⟨l,xs,y,rfl,rfl,hH,hz,q⟩:=h;cases rx;obtain⟨u,rfl,ru⟩:=rv.one;obtain⟨z,its,n,r,hl,e⟩:=I.lstM hH;refine call_meets Ja ⟨_,e,rfl⟩ F.entry_list_append (F.args_list_append_2 _ _) (PySem.list_append l its.toArray n u (by rw[CY];omega)) ⟨e,?_⟩;refine⟨.non,_,I.lset (its':=its++[u]) hH e (by simp) (r.append<|.cons ru .nil) ?_,rfl,q⟩;rw[DZ,Jb];omega
def cH:R2:=fun x y H Q=>∃l b xs zs,x=.ref l/\y=.ref b/\H l=some (.lst xs)/\H b=some (.lst zs)/\xs.length+zs.length<=sizeLine/\∀p,H p=none->Q (.ref p) (cI H p<|.lst<|xs++zs)
theorem fW:OpR X (binaryOp .Add) cH:=by
 intro pins s σ H x y v u Q I rx ry h;obtain⟨l,b,xs,zs,rfl,rfl,hH,hB,hz,q⟩:=h;cases rx;cases ry;obtain⟨z,its,n,r,hl,e⟩:=I.lstM hH;obtain⟨z2,its2,n2,r2,hl2,e2⟩:=I.lstM hB;refine PySem.P.add_list e e2 ?_ (by rw[CY,CY];omega);have ea:its.toArray++its2.toArray=(its++its2).toArray:=by simp
 rw[ea];exact⟨.ref _,_,I.lnew (t':=s.toks) (r.append r2) (by rw[DZ];omega),rfl,q _ I.fresh⟩
end
section
variable{κ:Type}[DecidableEq κ]
def gK(kvs:List (κ×V))(k:κ):Option V:=(kvs.find? fun kv=>decide<|kv.1=k).map (·.2)
def qY(kvs:List (κ×V))(k:κ)(v:V):List (κ×V):=
 if(kvs.any fun kv=>decide<|kv.1=k)=true then kvs.map (fun kv=>if kv.1=k then(kv.1,v)else kv)else kvs++[(k,v)]
theorem fX{p:κ×V}{r:List (κ×V)}{k:κ}(e:p.1=k):gK (p::r) k=some p.2:=by simp[gK,EH,e]
theorem fY{p:κ×V}{r:List (κ×V)}{k:κ}(e:¬p.1=k):gK (p::r) k=gK r k:=by simp[gK,EH,e]
theorem mU(k:κ):∀kvs:List (κ×V),(kvs.any fun kv=>decide<|kv.1=k)=(gK kvs k).isSome
 | []=>rfl
 |p::r=>by
  rw[Hd];by_cases e:p.1=k;·simp only[fX e,decide_eq_true e,Bool.true_or,JX]
  ·rw[fY e,decide_eq_false e,Bool.false_or];exact mU k r
theorem RelO.isSome_eq{o:Option V}{u:Option CD}(r:RelO o u):o.isSome=u.isSome:=by
 cases o with
 |none=>cases u with
  |none=>rfl
  |some _=>exact(show False from r).elim
 |some _=>cases u with
  |none=>exact(show False from r).elim
  |some _=>rfl
theorem KV.val{kvs:List (κ×V)}{vs:List (κ×CD)}(r:KV kvs vs)(k:κ):RelO (gK kvs k) (valueAt vs k):=by
 unfold KV at r
 induction r with
 |nil=>exact G8
 | @cons p q ps qs h t ih=>
  obtain⟨h1,h2⟩:=h;by_cases e:p.1=k
  ·have e':q.1=k:=h1.symm.trans e;have b:valueAt (q::qs) k=some q.2:=by simp[valueAt,EH,e']
   rw[fX e,b];exact h2
  ·have e':¬q.1=k:=fun z=>e<|h1.trans z;have b:valueAt (q::qs) k=valueAt qs k:=by simp[valueAt,EH,e']
   rw[fY e,b];exact ih
end
theorem xQ{P:CT}{w:D6}{k:Key}{u:CD}(r:RelV (kV k) u):(mixKind P w).is k u=true:=by
 cases k with
 |inl i=>obtain⟨t,e⟩:=(show ∃t,u=Ip i t from r);subst e;exact mM P w i t
 |inr x=>obtain⟨t,e⟩:=(show ∃t,u=Kx x t from r);subst e;exact mO P w x t
theorem la{P:CT}{w:D6}:∀{ks:List Key}{us:List CD},Vals (ks.map kV) us->ItemsAre (mixKind P w) ks us
 | [],_,r=>by rw[FU]at r;cases r;exact .nil
 |k::ks,_,r=>by
  rw[Dk]at r;cases r with
  |cons h t=>exact .cons (xQ h)<|la t
section
variable{X:Cx}{pins:List (Addr×Obj)}{σ:St}{H:Hp}{s:CH}{a:Addr}{y v:V}{u r:CD}{o:Option V}{A:Dr}{E:CD->CH->Prop}
theorem Inv.big(I:Inv X pins σ H s):sysModules<s.heap.objs.size:=by
 have h:mainGlobals<s.heap.objs.size:=(I.mod.glob.keeps I.bk).lt;exact IP (by decide) h
theorem wa{h':Heap}{t':Nat}{ob:HO}(I:Inv X pins σ H s)(mu:zS (H a))(hs:D5 a s.heap h')(he:∃q,h'.get? a=some q)(new:ObjOk X.prog X.w (cI H a ob) h' a ob):
  Inv X pins σ (cI H a ob) {s with heap:=h',toks:=t'}:=
 I.write (x:=a) (e:=a) mu (.inl rfl) (fun b q hb z=>(hs.2 b hb).trans z) he new
end
def sS(i:Expr):Prop:=∀ov iv,subscripted i false ov iv=operate [ov,iv] (getItem ov iv)
theorem pQ{prog:CT}{w:D6}{A:Dr}{E:CD->CH->Prop}{s:CH}{env:Env}{value slice:Expr}{pos:Pos}{T id:String}{Q:CD->CH->Prop}
  (hl:typeLookup (.type T) "__getitem__"=pure (some<|.builtin id)) (hs:sS slice)
  (h:wpAny (model prog w) A (eval value env) (fun o s₁=>wpAny (model prog w) A (eval slice env) (fun i s₂=>s₂.TypeIs o T/\wpAny (model prog w) A (getItem o i) Q E s₂) E s₁) E s):
  wpAny (model prog w) A (eval (.Subscript value slice pos) env) Q E s:=by
 refine JU<|DW h (fun o s₁ h₁=>DW h₁ (fun i s₂ h₂=>?_) fun _ _ x=>x) fun _ _ x=>x;obtain⟨hT,h₂⟩:=h₂;unfold subscriptTail;refine Cy ?_;rw[getitemInPython_of_ne hT.not_modules];refine Cy<|Gm hT hl ?_;have fin:wpAny (model prog w) A (subscripted slice false o i) (fun r s₃=>wpAny (model prog w) A (letTemporaryGo value o r>>=fun _=>pure r) Q E s₃) E s₂:=by
  rw[hs o i];exact wpAny_operating<|DW h₂ (fun r s₃ h₃=>Cy<|wpAny_letTemporaryGo<|CG h₃) fun _ _ x=>x
 first
  |exact CG<|Cy fin
  |exact Cy<|CG<|Cy fin
  |exact Cy fin
end L2
namespace Att
open PySem PySem.W PySem.Calls PyProof.Rows
theorem iZ{P:MS}{h:Heap}:∀(ns:List Int)(vs:List CD),WellAll P h vs (ns.map N0)->Kj vs ns:=by
 intro ns
 induction ns with
 |nil=>
  intro vs w;rw[FU]at w;cases w;exact .nil
 |cons n ns ih=>
  intro vs w;rw[Dk]at w;cases w with
  |cons a b=>
   cases a;exact .cons _ _<|ih _ b
theorem qZ{l:Hj}{n:Nat}(hn:l.most=some n){P:MS}{h:Heap}{args:List WData}{vals:List CD}
  (hpre:l.row.toRowW.claim.pre args=true) (hwl:WellAll P h vals args):
  ∃a vs ns,vals=[D8 a]/\args=[WData.list (ns.map N0)]/\h.get? a=some {cls:=.type "list",data:=.seq vs.toArray}/\Kj vs ns/\ns.length<=n:=by
 have hsh:WShape.hasAll [] args [.list .int]=true:=(pre_splitW hpre).1;have hc:l.pre.holds [] {args:=args}=true:=(pre_splitW hpre).2;obtain⟨d,r,rfl,h1,h2⟩:=hasAllW_cons hsh;obtain rfl:=hasAllW_nil h2;obtain⟨xs,rfl,h3⟩:=hasW_list h1;obtain⟨ns,rfl⟩:=items_int h3;have hlen:ns.length<=n:=by
  unfold OpenLaw.pre at hc;have h4:(WTm.not<|.lt (.lit<|.int (n:Int))<|.len<|.arg 0).holds [] {args:=[.list (ns.map .int)]}=true:=by
   have h4:=(holds_andW hc).1;rw[hn]at h4;exact h4
  have h5:=condW_of h4<|w_not<|w_lt w_lit<|w_len_list<|w_arg rfl;rw[Dc]at h5;refine Nat.le_of_not_lt fun q=>?_;have q':(n:Int)<((ns.length:Nat):Int):=by omega
  first
   |(rw[decide_eq_true q']at h5;exact absurd h5 (by decide))
   |(simp at h5;omega)
 cases hwl with
 |cons w1 w2=>
  cases w2;cases w1 with
  |list ho hall=>exact⟨_,_,ns,rfl,rfl,ho,iZ ns _ hall,hlen⟩
theorem r0(l:Hj)(args:List WData):l.row.toRowW.claim.post args (.bool true) args=true:=
 postW_of (r:=l.row.toRowW) (X:=(true==true))
  (show MT [] (.bool true) .bool=true by first|rfl|decide|simp[MT,WShape.arms,WShape.armsAll])
  (show(WTm.eq .res<|.lit<|.bool true).value [] {args:=args,res:=some<|.bool true,after:=args}=some (.bool<|true==true)from w_eq_bool (w_res rfl) w_lit) rfl
theorem attach_call{l:Hj}{n:Nat}{q:CT}{loose:List Str}{XP:(Str->Option CD)->Heap->Prop}{YP:D6->Heap->Prop}{d:DefRec}
  (hn:l.most=some n) (hdf:d.params.defaults=[])
  (call:∀(w:D6) (s₀ s₁:CH) (mg mb:Str->Option CD) (fa:Addr) (o:Obj) (pm cd doc:CD) (a:Addr) (vs:List CD) (ns:List Int),
   Ground q loose [] XP w s₀ mg mb s₁.heap->YP w s₁.heap->
   s₁.heap.get? fa=some o->o.data=.func (docDef d.name d.params d.body d.scope pm cd doc)->s₁.heap.CodeRec cd d.name->mg d.name=some (.ref fa)->
   s₁.heap.get? a=some {cls:=.type "list",data:=.seq vs.toArray}->Kj vs ns->ns.length<=n->s₁.gens= #[]->
   codeAny (model l.prog w) callerA (.call (.ref fa) ⟨[.ref a],[]⟩) (fun r s'=>r=.ok (.ret (.bool true))/\OldK s₁.heap s'.heap/\s'.os=s₁.os/\Hy s'.gens) s₁):
  La q loose XP YP l.row.toRowW d [] (fun f vs=>Li f vs):=by
 intro w s₀ s₁ mg mb G Y fa o pm cd doc dV kV ho hd hcd hD hmg hg args vals as hpre hlay hrd hwl hlo;obtain rfl:dV=.none:=Dflts.none hD hdf;obtain rfl:kV=.none:=Dflts.noKw hD;obtain⟨a,vs,ns,rfl,rfl,hobj,hints,hlen⟩:=qZ hn hpre hwl;refine enter_call<|GG (call w s₀ s₁ mg mb fa o pm cd doc a vs ns G Y ho (fd_plain hd) hcd hmg hobj hints hlen hg) fun r s' hq=>?_;obtain⟨rfl,h2,h3,h4⟩:=hq;exact⟨.inl ⟨.bool true,.bool true,[],rfl,fun _=>rfl,.bool true,r0 l _,fun _=>⟨Fz,fun _ hm=>(nomatch hm)⟩⟩,h2,h3,h4⟩
end Att
namespace L2
open PySem PySem.Spec PyProof.Rows
theorem iz:∀{vs:List CD}{ns:List Int},Kj vs ns->Vals (ns.map FO) vs
 |_,_,.nil=>.nil
 |_,_,.cons n t h=>.cons ⟨t,rfl⟩<|iz h
def yu(H:Hp):Prop:=∀b,H b=none\/∃o xs,H b=some (.frz o<|.lst xs)
theorem sT{P:CT}{w:D6}{K:CF}{mg mb:Str->Option CD}{CX:CXT}{k:Nat}{fa a:Addr}{fd:De}{x:Str}{sp:Sp}{s₁:CH}{vs:List CD}{ns:List Int}
  (KX:K.In s₁.heap) (hns:s₁.heap.Ns mainGlobals mg) (hb:s₁.heap.Ns builtinsNs mb) (hbb:∀x:Str,x≠"__name__"->mb x=bootBuiltins x) (hlim:s₁.heap.NoLimit) (hg:s₁.gens= #[])
  (ha:s₁.heap.get? a=some {cls:=.type "list",data:=.seq vs.toArray}) (hi:Kj vs ns) (hl:ns.length<=sizeLine) (hr:Room k callerA)
  (F:∀base:Heap,K.In base->base.Ns mainGlobals mg->FnOk P w K mg base CX k fa fd [x] sp) (hbind:∀(s:CH)(u:CD),JA s fd ⟨[u],[]⟩ [(x,u)])
  (hsp:∀H:Hp,yu H->SqL K H a (ns.map FO)->sp [.ref a] H (fun v _=>v=.bl true) fun _ _ _=>False)
  (hCX:∀H e s',CX [] H s₁ (fun _ _ _=>False) e s'->False):
  codeAny (model P w) callerA (.call (.ref fa) ⟨[.ref a],[]⟩) (fun r s'=>r=.ok (.ret<|.bool true)/\OldK s₁.heap s'.heap/\s'.os=s₁.os/\Hy s'.gens) s₁:=by
 have rv:=iz hi;have lenV:=hi.length;have core:∀H:Hp,yu H->SqL K H a (ns.map FO)->HOk P w H s₁.heap->(∀b,H b≠none->b=a)->(H a≠none->K.lookup a=none)->
   codeAny (model P w) callerA (.call (.ref fa) ⟨[.ref a],[]⟩) (fun r s'=>r=.ok (.ret<|.bool true)/\OldK s₁.heap s'.heap/\s'.os=s₁.os/\Hy s'.gens) s₁:=by
  intro H hO hS hok hA hK;have base_of:∀{b:Addr}{o:Obj},s₁.heap.get? b=some o->H b=none->(lL s₁.heap H).get? b=some o:=fun e n=>sG e n;have noA:∀{b:Addr}{o:Obj}{es:Array EZ}{ep:Nat},s₁.heap.get? b=some o->o.data=.dict es ep->H b=none:=fun{b o es ep}e d=>by
   cases q:H b with
   |none=>rfl
   |some u=>
    have e':b=a:=hA b (by rw[q];simp);subst e';rw[ha]at e;cases e;have d':Iu vs.toArray _=Data.dict es ep:=d;cases d'
  have nsK:∀{b:Addr}{m:Str->Option CD},s₁.heap.Ns b m->(lL s₁.heap H).Ns b m:=fun{b m}⟨o,es,ep,e,d,r⟩=>⟨o,es,ep,base_of e<|noA e d,d,r⟩
  have hKb:K.In (lL s₁.heap H):=fun b o e=>base_of (KX b o e) (by
   cases q:H b with
   |none=>rfl
   |some u=>
    have e':b=a:=hA b (by rw[q];simp);subst e';rw[hK (by rw[q];simp)]at e;cases e)
  have hM:Mod K mg (lL s₁.heap H):=⟨hKb,nsK hns,⟨mb,nsK hb,hbb⟩,let ⟨mc,h1,h2⟩:=hlim;⟨mc,nsK h1,h2⟩⟩
  have e0:Env0 P w K mg (lL s₁.heap H) callerA [] s₁ H:=⟨rfl,hM,fun b o e=>vV e,Nat.le_of_eq<|qT _ _,trivial,fun b hb=>absurd (show b∈([]:List Addr)from hb) (by simp),hok,.of_eq hg⟩
  refine GG ((F _ hKb<|nsK hns).run callerA [] s₁ H ⟨[.ref a],[]⟩ [.ref a] [.ref a] _ _ hr e0 (hbind s₁<|.ref a) (.cons rfl .nil) (hsp H hO hS)) fun r s' h=>?_;cases r with
  |error e=>exact(hCX H e s' h).elim
  |ok fl=>
   cases fl with
   |next=>exact EO h
   |brk=>exact EO h
   |cont=>exact EO h
   |ret u=>
    obtain⟨v,H',os,bare,un,hok',r',q⟩:=h;have q':v=.bl true:=q;subst q';obtain rfl:u=Ld true:=r';refine⟨rfl,OldK.of_keep fun b o e=>?_,os,bare⟩;cases q:H b with
    |none=>exact un.keep b o e q (by intro z;exact absurd (show b∈([]:List Addr)from z) (by simp)) (by simp)
    |some u=>
     rcases hO b with z|⟨ob,xs,z⟩
     ·rw[q]at z;cases z
     ·have z2:=un.frzs b ob _ z;obtain⟨e1,_⟩:=hok b _ z;obtain⟨e2,_⟩:=hok' b _ z2;rw[e]at e1;cases e1;exact e2
 cases hk:K.lookup a with
 |some o=>
  have e:=KX a o hk;rw[ha]at e;cases e;refine core (fun _=>none) (fun _=>.inl rfl) (.inr ⟨_,vs.toArray,_,hk,rfl,rfl,rfl,by rw[CY,lenV];exact hl,by simpa using rv⟩) (fun b u z=>by have z':(none:Option HO)=some u:=z;cases z') (fun b z=>absurd rfl z) fun z=>absurd rfl z
 |none=>
  refine core (fun b=>if b=a then some (.frz {cls:=.type "list",data:=.seq vs.toArray}<|.lst<|ns.map FO)else none) (fun b=>?_) (.inl<|.inr ⟨{cls:=.type "list",data:=.seq vs.toArray},if_pos rfl⟩) (fun b u z=>?_) (fun b z=>?_) fun _=>hk
  ·by_cases hb:b=a;·exact .inr ⟨_,_,if_pos hb⟩
   ·exact .inl<|if_neg hb
  ·by_cases hb:b=a
   ·have z':=(if_pos hb).symm.trans z;cases z';subst hb;exact⟨ha,by rw[Dc];exact hl,vs,_,rv,ha⟩
   ·have z':=(if_neg hb).symm.trans z;cases z'
  ·by_cases hb:b=a;·exact hb
   ·exact absurd (if_neg hb) z
theorem walk_of{l:Hj}{n k:Nat}{q:CT}{loose:List Str}{XP:(Str->Option CD)->Heap->Prop}{YP:D6->Heap->Prop}{d:DefRec}{K:MS->CF}{CX:D6->CXT}{sp:D6->Sp}{x:Str}
  (hn:l.most=some n) (hn2:n<=sizeLine) (hdf:d.params.defaults=[]) (hr:Room k callerA)
  (hY:∀(w:D6)(h:Heap),YP w h->(K w.params).In h)
  (F:∀(w:D6) (mg:Str->Option CD) (fa:Addr) (h:Heap),(K w.params).In h->h.Ns mainGlobals mg->mg d.name=some (.ref fa)->
   ∃fd:De,(∀(s:CH)(u:CD),JA s fd ⟨[u],[]⟩ [(x,u)])/\
    ∀base:Heap,(K w.params).In base->base.Ns mainGlobals mg->FnOk l.prog w (K w.params) mg base (CX w) k fa fd [x] (sp w))
  (hsp:∀(w:D6)(H:Hp)(a:Addr)(ns:List Int),ns.length<=n->yu H->SqL (K w.params) H a (ns.map FO)->sp w [.ref a] H (fun v _=>v=.bl true) fun _ _ _=>False)
  (hCX:∀(w:D6)(H:Hp)(s:CH)(e:CD)(s':CH),CX w [] H s (fun _ _ _=>False) e s'->False):
  La q loose XP YP l.row.toRowW d [] (fun f vs=>Li f vs):=by
 refine Att.attach_call hn hdf fun w s₀ s₁ mg mb fa o pm cd doc a vs ns G Y ho hd hcd hmg hobj hints hlen hg=>?_;have KX:=hY w _ Y;obtain⟨fd,hb,hF⟩:=F w mg fa _ KX G.T.g hmg;exact sT KX G.T.g G.T.b G.T.builtins G.T.nolimit hg hobj hints (E9 hlen hn2) hr hF hb (fun H hO hS=>hsp w H a ns hlen hO hS) fun H e s'=>hCX w H s₁ e s'
def defArgs(s:Stmt):Arguments:=match s with
 | .FunctionDef _ a _ _ _ _ _ _ _ _=>a
 |_=>{posonlyargs:=[],args:=[],vararg:=none,kwonlyargs:=[],kw_defaults:=[],kwarg:=none,defaults:=[]}
def defBody(s:Stmt):List Stmt:=match s with
 | .FunctionDef _ _ b _ _ _ _ _ _ _=>b
 |_=>[]
def defScope(s:Stmt):Fm:=match s with
 | .FunctionDef _ _ _ _ _ _ sc _ _ _=>sc
 |_=>{kind:=.function,names:=[],isGenerator:=false,isCoroutine:=false}
abbrev CX0:CXT:=fun _ _ _ _ _ _=>False
abbrev E0:XK:=fun _ _ _=>False
theorem A2{X:Cx}:iy CX0 X E0:=fun _ _ _ _ _ _ _ h=>h.elim
structure Fun(K:CF)(x qual:Str)(st:Stmt)(f:Addr)(fd:De):Prop where
 ex:∃(oc:CD)(od:Option Addr)(kV doc pm:CD)(an:Option Addr)(cdv ct:CD)(osl:Array (Option CD)),
  fd=ET x qual (defArgs st) (defBody st) (defScope st) .none kV doc pm an cdv ct/\K.lookup f=some ⟨oc,od,.func fd,osl⟩/\FI K cdv qual=true
 kp:EE K (.ref f)=true
section
variable{P:CT}{w:D6}{K:CF}{mg:Str->Option CD}{base:Heap}
theorem Fun.ok{x qual:Str}{st:Stmt}{f:Addr}{fd:De}{N ps:List Str}{k:Nat}{sp:Sp}(F:Fun K x qual st f fd)(S:FnScope N ps (defScope st))(len:∀vs H Q E,sp vs H Q E->vs.length=ps.length)
  (hbody:∀(cdv:CD) (A:Dr) (outer:List Env) (s:CH) (H:Hp) (vs:List V) (Q:VK) (E:XK),Room k (A.deeper<|envOfC qual (defScope st) s.heap.objs.size f cdv)->sp vs H Q E->
   ∃t,PSs (kI CX0 P w K mg base N qual (defScope st) f cdv A outer s H E).nox (defBody st) t/\t {nx:=fun _ H'=>Q .non H',rt:=Q} (start N vs) H):FnOk P w K mg base CX0 (k+1) f fd ps sp:=by
 obtain⟨oc,od,kV,doc,pm,an,cdv,ct,osl,rfl,lk,hcd⟩:=F.ex;refine xO lk hcd S len fun A outer s H vs Q E hr hsp=>?_;obtain⟨t,h,q⟩:=hbody cdv A outer s H vs Q E hr hsp;exact⟨t,h.nox,q⟩
theorem Fun.binds{x qual:Str}{st:Stmt}{f:Addr}{fd:De}{ps:List Str}(F:Fun K x qual st f fd)
  (h:∀(kV doc pm:CD)(an:Option Addr)(cdv ct:CD)(us:List CD),us.length=ps.length->bindArgs (ET x qual (defArgs st) (defBody st) (defScope st) .none kV doc pm an cdv ct) ⟨us,[]⟩=pure (ps.zip us)):Binds K fd ps []:=by
 obtain⟨oc,od,kV,doc,pm,an,cdv,ct,osl,rfl,lk,hcd⟩:=F.ex;exact .all<|h kV doc pm an cdv ct
theorem jt{x qual:Str}{st:Stmt}{f:Addr}{oc:CD}{od an:Option Addr}{osl:Array (Option CD)}{kV doc pm cdv ct:CD}(l:K.lookup f=some ⟨oc,od,.func<|ET x qual (defArgs st) (defBody st) (defScope st) .none kV doc pm an cdv ct,osl⟩)
  (c:FI K cdv qual=true) (k:EE K (.ref f)=true):Fun K x qual st f (ET x qual (defArgs st) (defBody st) (defScope st) .none kV doc pm an cdv ct):=⟨⟨oc,od,kV,doc,pm,an,cdv,ct,osl,rfl,l,c⟩,k⟩
end
section
variable{X:Cx}
theorem pv(i:Nat){x:Str}{pos:Pos}(hN:X.N[i]? =some x:=by rfl)(hv:Vis X.env.scope x:=by first|exact GH rfl|exact Gv (GH rfl)|exact Gv<|Gv rfl)(hd:(x==("__debug__" :Str))=false:=by decide)
  (hcd:(x==("__classdict__" :Str))=false:=by decide):PE X (.Name x pos) (bL i):=yi hN hv hd hcd
end
def Same(H H':Hp):Prop:=∀b o,H b=some o->H' b=some o
theorem Same.refl(H:Hp):Same H H:=fun _ _ h=>h
theorem Same.trans{H H1 H2:Hp}(a:Same H H1)(b:Same H1 H2):Same H H2:=fun c o h=>b c o<|a c o h
theorem Same.seq{K:CF}{H H':Hp}{a:Addr}{xs:List V}(e:Same H H')(h:SqL K H a xs):SqL K H' a xs:=by
 rcases h with(h|⟨o,h⟩)|h;·exact .inl<|.inl<|e _ _ h
 ·exact .inl<|.inr ⟨o,e _ _ h⟩
 ·exact .inr h
end L2
set_option maxHeartbeats 4000000
namespace L2
open PySem PySem.Spec PyProof.Rows
abbrev sOf(l:List Nat):Str:=⟨l.toArray⟩
theorem cu(l:List Nat):(sOf l).length=l.length:=by simp[MO,sOf]
theorem pR(l:List Nat):(sOf l).cps.toList=l:=by simp[sOf]
theorem fv(a b:List Nat):sOf a++sOf b=sOf (a++b):=by
 apply PySem.Str.ext';rw[PySem.Str.cps_append];simp[sOf]
theorem pS{a b:List Nat}(h:sOf a=sOf b):a=b:=by
 have:=congrArg (fun x=>x.cps.toList) h;simpa [sOf] using this
theorem sU(x:Str):x=sOf x.cps.toList:=by cases x;simp[sOf]
def DictK(K:CF)(w:D6)(a:Addr)(kvs:List (Key×V)):Prop:=
 kvs.length<=1000/\(a==sysModules)=false/\(kvs.map (·.1)).Nodup/\∃(es:Array EZ)(ep:Nat),K.lookup a=some {cls:=.type "dict",data:=.dict es ep}/\
  Paired (fun(p:Key×V)(e:EZ)=>fT p.1 e.key=true/\e.hash=sF w p.1/\RelV p.2 e.val) kvs es.toList
theorem mV{P:CT}{w:D6}{kvs:List (Key×V)}{es:List EZ}(r:Paired (fun(p:Key×V)(e:EZ)=>fT p.1 e.key=true/\e.hash=sF w p.1/\RelV p.2 e.val) kvs es):
  ∀e∈es,∃k,fT k e.key=true/\e.hash=sF w k:=by
 induction r with
 |nil=>intro e h;cases h
 | @cons p e ps es h t ih=>
  intro e' h';rcases CW.mp h' with rfl|h'
  ·exact⟨p.1,h.1,h.2.1⟩
  ·exact ih e' h'
theorem lT{P:CT}{w:D6}{kvs:List (Key×V)}{es:List EZ}(r:Paired (fun(p:Key×V)(e:EZ)=>fT p.1 e.key=true/\e.hash=sF w p.1/\RelV p.2 e.val) kvs es):
  ∃vs,KV kvs vs/\Pairs (mixKind P w) es vs/\vs.map (·.1)=kvs.map (·.1):=by
 induction r with
 |nil=>exact⟨[],.nil,.nil,rfl⟩
 | @cons p e ps es h t ih=>
  obtain⟨vs,h1,h2,h3⟩:=ih;exact⟨(p.1,e.val)::vs,.cons ⟨rfl,h.2.2⟩ h1,.cons h.1 rfl h2,by simp[h3]⟩
theorem DictK.of{P:CT}{w:D6}{K:CF}{a:Addr}{kvs:List (Key×V)}{h:Heap}(d:DictK K w a kvs)(x:K.In h):(a==sysModules)=false/\∃vs,KV kvs vs/\h.DictOf (mixKind P w) a vs:=by
 obtain⟨hz,hs,nd,es,ep,lk,r⟩:=d;obtain⟨vs,h1,h2,h3⟩:=lT (P:=P) r;refine⟨hs,vs,h1,_,es,ep,x _ _ lk,⟨rfl,rfl,rfl⟩,rfl,fun e he=>mV (P:=P) r e (by simpa using he),h2,by rw[h3];exact nd⟩
section
variable{X:Cx}{o i e:Expr}{pos:Pos}{td ty:TE}
def aR(K:CF)(w:D6)(td ty:TE):TE:=fun σ H Q=>td σ H fun x H1=>ty σ H1 fun y H2=>∃a kvs k v,x=.ref a/\DictK K w a kvs/\y=kV k/\gK kvs k=some v/\Q v H2
theorem sV(ho:PE X o td)(hi:PE X i ty)(hs:sS i):PE X (.Subscript o i pos) (aR X.K X.w td ty):=by
 intro pins s σ H Q I h;refine pQ HQ.lookup hs<|bF (ho pins s σ H _ I h) fun u s1 zz=>?_;obtain⟨x,H1,I1,rx,q1⟩:=zz;refine bF (hi pins s1 σ H1 _ I1 q1) fun iv s2 zz=>?_;obtain⟨y,H2,I2,ry,a,kvs,k,v,ex,dk,ey,ev,q2⟩:=zz;subst ex ey;obtain rfl:u=D8 a:=rx;obtain⟨hd,vs,rel,dd⟩:=dk.of (P:=X.prog) I2.kIn;refine⟨dd.typeIs,?_⟩;obtain⟨w',hw,rw'⟩:=Mk (v:=v) (o:=valueAt vs k) (by rw[<-ev];exact rel.val k);exact wpAny_getItem_of (xQ ry) dd.mapOf hw ⟨v,H2,I2.tok _,rw',q2⟩
end
section
variable{X:Cx}
theorem ju:OpR X (compareOp .Is) (fun x y H Q=>∃c,y=.bl c/\Q (.bl<|decide<|x=.bl c) H):=by
 intro pins s σ H x y v u Q I rx ry h;obtain⟨c,rfl,q⟩:=h;cases ry;cases x with
 |bl b=>cases rx;exact is_bool (aT I q (by cases b<;>cases c<;>simp))
 |non=>cases rx;exact CG (aT I q (by simp))
 |int i=>obtain⟨t,rfl⟩:=rx;exact CG (aT I q (by simp))
 |str i=>obtain⟨t,rfl⟩:=rx;exact CG (aT I q (by simp))
 |byt i=>obtain⟨t,rfl⟩:=rx;exact CG (aT I q (by simp))
 |flt i=>obtain⟨t,rfl⟩:=rx;exact CG (aT I q (by simp))
 |ref a=>cases rx;exact CG (aT I q (by simp))
 |ty a=>cases rx;exact CG (aT I q (by simp))
theorem oE:OpR X (binaryOp .Mult) (fun x y H Q=>∃c n,x=.str (sOf [c])/\y=.int n/\0<=n/\n<=100000/\Q (.str<|sOf<|ES n.toNat c) H):=by
 intro pins s σ H x y v u Q I rx ry h;obtain⟨c,n,rfl,rfl,h0,h1,q⟩:=h;obtain⟨t,rfl⟩:=rx;obtain⟨t',rfl⟩:=ry;have hl:(sOf [c]).length=1:=cu [c];refine SB.mul ?_ fun t' k=>?_
 ·refine⟨?_,fun _ _=>?_,fun _ _=>?_⟩
  ·have e1:decide (n< -(2^63:Int))=false:=decide_eq_false (by omega);have e2:decide (n≥2^63)=false:=decide_eq_false (by omega);rw[e1,e2];rfl
  ·rw[hl];have h2:1<=n:=by omega
   have:(1:Int)<=(2^63-1)/n:=(Int.le_ediv_iff_mul_le (by omega)).mpr (by omega);omega
  ·rw[hl];unfold MN;have:=E6;simp;omega
 ·have e:MX (sOf [c]) n=sOf (ES n.toNat c):=by
   rw[sU<|MX (sOf [c]) n];show sOf ((MX ⟨#[c]⟩ n).cps.toList)=_;rw[mul_one_list]
  exact⟨.str _,H,I.tok _,⟨t',rfl⟩,by rw[e];exact q⟩
end
section
variable{X:Cx}
def j0(l:List Nat)(lo hi:Option Int):List Nat:=(l.drop<|HT.sIx l.length 0 lo).take (HT.sIx l.length l.length hi-HT.sIx l.length 0 lo)
theorem jv(lo hi:Option Int)(n:Nat):EN lo hi 1 n=sliceRange ((HT.sIx n 0 lo:Nat):Int) ((HT.sIx n n hi:Nat):Int) 1:=by
 unfold EN;have e1:(match lo with|none=>(0:Int)|some i=>max 0 (min (if i<0 then i+(n:Int)else i) n))=((HT.sIx n 0 lo:Nat):Int):=by
  cases lo with
  |none=>simp[HT.sIx]
  |some i=>simp only[HT.sIx];by_cases h:i<0<;>simp only[h,if_true,if_false]<;>omega
 have e2:(match hi with|none=>(n:Int)|some i=>max 0 (min (if i<0 then i+(n:Int)else i) n))=((HT.sIx n n hi:Nat):Int):=by
  cases hi with
  |none=>simp[HT.sIx]
  |some i=>simp only[HT.sIx];by_cases h:i<0<;>simp only[h,if_true,if_false]<;>omega
 simp only[show(1:Int)>0 by decide,if_true];rw[<-e1,<-e2];cases lo<;>cases hi<;>rfl
theorem r6(l:List Nat)(lo hi:Option Int):KG (sOf l) lo hi=sOf (j0 l lo hi):=by
 have hn:(sOf l).length=l.length:=cu l;have hk:(EN lo hi 1 l.length).filterMap ((sOf l).cps[·]?)=j0 l lo hi:=by
  rw[jv,Jq,pick_run];simp[j0]
 have hlen:(EN lo hi 1 l.length).length=(j0 l lo hi).length:=by
  rw[jv,Jq];have h1:=HT.sIx_le l.length 0 (KS _) lo;have h2:=HT.sIx_le l.length l.length (CU _) hi;simp[j0];omega
 unfold KG;rw[hn];split
 ·rename_i h;have h:(EN lo hi 1 l.length).length=l.length:=by simpa using h
  have hl:=hlen.symm.trans h;have e:j0 l lo hi=l:=by
   have h3:(j0 l lo hi).length<=(l.drop<|HT.sIx l.length 0 lo).length:=by unfold j0;simp;omega
   have h4:HT.sIx l.length 0 lo=0\/l.length=0:=by
    rw[KD]at h3;omega
   rcases h4 with h4|h4
   ·unfold j0 at hl ⊢;rw[h4]at hl ⊢;rw[Lj]at hl ⊢;rw[GX]at hl;exact Fj (by omega)
   ·have:l=[]:=Gz.mp h4;subst this;simp[j0]
  rw[e]
 ·rw[hk]
theorem sW:AN X (fun x lo hi H Q=>∃l,x=.str (sOf l)/\l.length<=sizeLine/\Q (.str<|sOf<|j0 l lo hi) H):=by
 intro pins s σ H x v vl vu lo hi sl Q I rx hs pl pu h;obtain⟨l,rfl,hz,q⟩:=h;obtain⟨t,rfl⟩:=rx;obtain⟨a1,rfl,e1⟩:∃a:Option (Int×Tok),vl=partValue a/\a.map (·.1)=lo:=by
  cases pl with
  |none=>exact⟨none,rfl,rfl⟩
  |int i t=>exact⟨some (i,t),rfl,rfl⟩
 obtain⟨a2,rfl,e2⟩:∃a:Option (Int×Tok),vu=partValue a/\a.map (·.1)=hi:=by
  cases pu with
  |none=>exact⟨none,rfl,rfl⟩
  |int i t=>exact⟨some (i,t),rfl,rfl⟩
 have hle:(KG (sOf l) lo hi).length<=sizeLine:=E9 (Txt.slice_le _ _ _) (by rw[cu];exact hz);refine⟨"str",_,PySem.F.slot_str_getitem.lookup,Lh _ _ _,wpAny_getItem_str_slice (l:=a1) (u:=a2) (st:=none) hs rfl ?_⟩;subst e1 e2;refine post_val_or_str ⟨hle,fun t' k=>⟨.str _,H,I.tok _,⟨t',rfl⟩,?_⟩⟩;have:=r6 l (a1.map (·.1)) (a2.map (·.1));unfold KG at this;show Q (.str (if _ then _ else _)) H;exact this▸q
theorem sX(hc:X.calm=true):A0 X "str.index" (fun x xs H Q=>∃a b,x=.str a/\xs=[.str b]/\0<=HE a b/\Q (.int<|HE a b) H):=by
 intro pins s σ H x xs v us Q I rx rs h;obtain⟨a,b,rfl,rfl,h0,q⟩:=h;obtain⟨t,rfl⟩:=rx;obtain⟨u,rfl,t',rfl⟩:=f9 rs;refine index_or (I.ok.hd hc) (fun e=>?_) fun _ _=>⟨.int _,H,I.tok _,⟨_,rfl⟩,q⟩
 omega
theorem oF{ys:List (List Nat)}:∀{us:List CD},Vals (ys.map fun y=>GW<|sOf y) us->StrsAre us (ys.map sOf):=by
 induction ys with
 |nil=>intro us r;cases r;exact .nil
 |cons y ys ih=>
  intro us r;cases r with
  |cons r1 r2=>
   obtain⟨t,e⟩:=r1;subst e;exact .cons _ t<|ih r2
theorem oG(ys:List (List Nat)):Txt.join (sOf []) (ys.map sOf)=sOf ys.flatten:=by
 have key:∀(r:List (List Nat))(acc:List Nat),(r.map sOf).foldl (fun acc p=>acc++(sOf []).cps++p.cps) acc.toArray=(acc++r.flatten).toArray:=by
  intro r
  induction r with
  |nil=>intro acc;simp
  |cons a r ih=>
   intro acc;rw[Dk,IZ,List.flatten_cons,<-FA,<-ih (acc++a)];simp[sOf]
 cases ys with
 |nil=>rfl
 |cons a r=>
  show Str.mk (((r.map sOf)).foldl (fun acc p=>acc++(sOf []).cps++p.cps) a.toArray)=_;rw[key];rfl
theorem wb:A0 X "str.join" (fun x xs H Q=>∃(p:Addr)(ys:List (List Nat)),x=.str (sOf [])/\xs=[.ref p]/\SqL X.K H p (ys.map fun y=>GW<|sOf y)/\ys.flatten.length<=100000/\Q (.str<|sOf ys.flatten) H):=by
 intro pins s σ H x xs v us Q I rx rs h;obtain⟨p,ys,rfl,rfl,hp,hl,q⟩:=h;obtain⟨t,rfl⟩:=rx;obtain⟨u,rfl,r1⟩:=f9 rs;cases r1;obtain⟨its,r,pl,hz⟩:=I.list hp;refine join_list pl.isList (by simpa using oF r) ?_ fun t' k=>⟨.str _,H,I.tok _,⟨t',rfl⟩,by rw[oG];exact q⟩
 have e:((ys.map sOf).map (·.length)).sum=ys.flatten.length:=by
  rw[F6,List.length_flatten];congr 1
  all_goals exact Hu fun y _=>cu y
 have e2:(sOf []).length=0:=cu [];rw[e,e2];omega
theorem mW:dC X (.builtin "isinstance") (fun xs H Q=>∃x T t b,xs=[x,.ty T]/\TyOf X.K H x t/\DR X.K t (.type T)=some b/\Q (.bl b) H):=by
 intro pins s σ H xs us Q I r h;obtain⟨x,T,t,b,rfl,ty,e,q⟩:=h;obtain⟨u,w',rfl,rx,rT⟩:=sP r;obtain rfl:w'=.type T:=rT;exact qW I rx ty e fun tk=>⟨.bl b,H,I.tok _,rfl,q⟩
def BI(l:List Nat):It:=⟨fun i _=>i<l.length,fun i H x H'=>H'=H/\∃c,l[i]? =some c/\x=.str (sOf [c]),fun i _=>l.length<=i⟩
def A3(tl:TE):TI:=fun σ H R=>tl σ H fun x H1=>∃l,x=.str (sOf l)/\R (BI l) H1
end
theorem sY{P:CT}{w:D6}{K:CF}{tg:Expr}(l:List Nat)(it:Addr)(ty:String)(t:Tok)(hty:ty="str_ascii_iterator"\/ty="str_iterator")
  (W:∀A':Dr,A'.handled=none->Walks P w A' it [it] [it] l.length (SignAt<|sOf l) (fun i h=>h.IsStrIter it ty (sOf l) t i)):
  Turn P w K tg (BI l) [it] it (fun i h=>i<=l.length/\h.IsStrIter it ty (sOf l) t i) where
 mem:=by simp
 obj:=fun i h st b hb=>by
  have e:b=it:=by simpa using hb
  subst e;obtain⟨_,o,e,c,d⟩:=st;exact⟨o,e,fun v z=>by rw[d]at z;cases z⟩
 keep:=fun i h h' st k=>⟨st.1,by obtain⟨o,e,r⟩:=st.2;exact⟨o,k it (by simp) o e,r⟩⟩
 item:=by
  intro X hP hw hK hc i pins s σ H E I hf st hg;subst hP hw hK;obtain⟨f0,f1,f2,f3,f4,f5⟩:=hf it (by simp);refine(W X.A<|I.ok.hd hc).item i s _ _ hg st.2 fun v h' tk hv st' kk=>?_;obtain⟨c,u,hc',rfl⟩:=hv;have I1:Inv X pins σ H {s with heap:=h',toks:=tk}:=I.turned (fun b o hb e=>kk b o (by simpa using hb) e) f0 f1 f3 f4 f5;obtain⟨o,e,c1,d⟩:=id st';refine⟨_,rfl,kY (s:={s with heap:=h',toks:=tk}) (n:=ty) e c1 d (by rcases hty with rfl|rfl<;>decide) ⟨.str<|sOf [c],H,I1,⟨u,rfl⟩,⟨rfl,c,?_,rfl⟩,⟨hg,st'⟩,fun b hb=>(hf b hb).1⟩⟩;simpa [sOf] using hc'
 done:=by
  intro X hP hw hK hc i pins s σ H E I hf st hg;subst hP hw hK;obtain⟨f0,f1,f2,f3,f4,f5⟩:=hf it (by simp);have e:i=l.length:=Nat.le_antisymm st.1 hg;subst e;exact(W X.A<|I.ok.hd hc).done s _ _ st.2 fun h' tk kk=>⟨rfl,I.turned (fun b o hb e=>kk b o (by simpa using hb) e) f0 f1 f3 f4 f5⟩
 self:=fun A i s Q E st h=>by
  rcases hty with rfl|rfl;·exact wpAny_pyIter_striter_ascii st.2 h
  ·exact wpAny_pyIter_striter_wide st.2 h
theorem jw{X:Cx}{tg l:Expr}{tl:TE}(hl:PE X l tl):PI X tg l (A3 tl):=by
 intro pins s σ H R I h;refine bF (hl pins s σ H _ I h) fun v s1 zz=>?_;obtain⟨x,H1,I1,r1,q1⟩:=zz;obtain⟨y,e,q⟩:=q1;subst e;obtain⟨t,rfl⟩:=r1;have hn:(sOf y).cps.size=y.length:=by simp[sOf]
 have fin:∀(ob:Obj)(ty:String),(ty="str_ascii_iterator"\/ty="str_iterator")->(∀A':Dr,A'.handled=none->Walks X.prog X.w A' s1.heap.objs.size [s1.heap.objs.size] [s1.heap.objs.size] y.length (SignAt<|sOf y) (fun i h=>h.IsStrIter s1.heap.objs.size ty (sOf y) t i))->
   (s1.heap.push ob).IsStrIter s1.heap.objs.size ty (sOf y) t 0->Bu X pins σ tg R (.ref s1.heap.objs.size) {s1 with heap:=s1.heap.push ob}:=fun ob ty hty W st=>by
  refine⟨s1.heap.objs.size,[s1.heap.objs.size],_,_,H1,rfl,I1.kept (t':=s1.toks) fun b o e=>CB _ e,sY y _ ty t hty W,⟨KS _,st⟩,fun b hb=>?_,q⟩;have e:b=s1.heap.objs.size:=by simpa using hb
  subst e;exact I1.fpOk (CU _)<|I1.hok.fresh<|CU _
 cases ha:(sOf y).cps.all (· <128);·exact Kl ha<|fin _ "str_iterator" (.inr rfl) (fun A' hA=>hn▸Walks.strWide hA _ (sOf y) t) ⟨_,CM _ rfl,rfl,rfl⟩
 ·exact JY ha<|fin _ "str_ascii_iterator" (.inl rfl) (fun A' hA=>hn▸Walks.strAscii hA _ (sOf y) t) ⟨_,CM _ rfl,rfl,rfl⟩
def bT(env:Env):List (Str×FH)->List (Str×Addr)->List (Str×Addr)
 | [],acc=>acc
 |(n,k)::r,acc=>bT env r (if(k== .free)=true then(n,(env.cells.lookup n).getD 0)::acc else acc)
theorem cT{scope:Fm}{env:Env}(h:∀x∈scope.names,x.2=.free->∃c,env.cells.lookup x.1=some c):closureFor scope env=pure (bT env scope.names []):=by
 simp only[closureFor];have key:∀(names:List (Str×FH))(acc:List (Str×Addr)),(∀x∈names,x.2=.free->∃c,env.cells.lookup x.1=some c)->
   (forIn names acc fun(x:Str×FH)(cs:List (Str×Addr))=>if(x.2== .free)=true then(do let a <-cellOf env x.1;pure (Fh ((x.1,a)::cs)))else pure (Fh cs))=(pure (bT env names acc):Sem _):=by
  intro names
  induction names with
  |nil=>intro acc _;rfl
  |cons x r ih=>
   intro acc hx;obtain⟨n,k⟩:=x;rw[Gn];have hr:∀y∈r,y.2=.free->∃c,env.cells.lookup y.1=some c:=fun y hy=>hx y<|D7 _ hy;unfold bT;by_cases hk:(k==Ek)=true
   ·obtain⟨c,hc⟩:=hx (n,k) CZ (by simpa using hk);have hc:env.cells.lookup n=some c:=hc;simp only[hk,if_true];unfold cellOf;simp only[hc,GY];exact ih _ hr
   ·simp only[hk,if_false];exact ih _ hr
 have:=key scope.names [] h;rw[this];rfl
theorem fZ{env:Env}{x:Str}{c:Addr}:∀(names:List (Str×FH))(acc:List (Str×Addr)),(∀y∈names,y.2=.free->∃c,env.cells.lookup y.1=some c)->(bT env names acc).lookup x=some c->
  ((x,Ek)∈names/\env.cells.lookup x=some c)\/acc.lookup x=some c
 | [],_,_,h=>.inr h
 |(n,k)::r,acc,hx,h=>by
  unfold bT at h;rcases fZ r _ (fun y hy=>hx y<|D7 _ hy) h with⟨q1,q2⟩|q
  ·exact .inl ⟨D7 _ q1,q2⟩
  ·by_cases hk:(k == Ek)=true
   ·rw[if_pos hk]at q;have hk':k=.free:=by simpa using hk
    subst hk';rw[EJ]at q;cases hb:x==n with
    |true=>
     rw[hb]at q;have e:x=n:=beq_iff_eq.mp hb;subst e;obtain⟨c',hc⟩:=hx (x,.free) CZ rfl;have hc:env.cells.lookup x=some c':=hc;rw[hc]at q;simp at q;subst q;exact .inl ⟨CZ,hc⟩
    |false=>rw[hb]at q;exact .inr q
   ·rw[if_neg hk]at q;exact .inr q
theorem iP{env:Env}{x:Str}{c:Addr}:∀(names:List (Str×FH))(acc:List (Str×Addr)),acc.lookup x=some c->env.cells.lookup x=some c->(bT env names acc).lookup x=some c
 | [],_,h,_=>h
 |(n,k)::r,acc,h,he=>by
  unfold bT;refine iP r _ ?_ he;by_cases hk:(k==Ek)=true
  ·rw[if_pos hk,EJ];cases hb:x==n with
   |true=>
    have e:x=n:=beq_iff_eq.mp hb;subst e;simp[he]
   |false=>exact h
  ·rw[if_neg hk];exact h
theorem iQ{env:Env}{x:Str}{c:Addr}:∀(names:List (Str×FH))(acc:List (Str×Addr)),(x,Ek)∈names->env.cells.lookup x=some c->(bT env names acc).lookup x=some c
 |(n,k)::r,acc,h,he=>by
  unfold bT;rcases CW.mp h with e|h
  ·cases e;exact iP r _ (by simp[he]) he
  ·exact iQ r _ h he
theorem cA:∀(names:List (Str×FH))(n:Nat)(acc:List (Str×Addr)),cellsFrom n names acc=cellsFrom n names []++acc
 | [],_,_=>rfl
 |(x,k)::r,n,acc=>by
  unfold cellsFrom;split;·rw[cA r _ ((x,n)::acc),cA r _ [(x,n)],FA];rfl
  ·exact cA r n acc
theorem dN:∀(names:List (Str×FH))(n:Nat){x:Str}{c:Addr},(x,c)∈cellsFrom n names []->(x,JI)∈names
 | [],_,_,_,h=>by cases h
 |(y,k)::r,n,x,c,h=>by
  unfold cellsFrom at h;split at h
  ·rename_i hk;rw[cA]at h;rcases Ff.mp h with h|h
   ·exact D7 _<|dN r _ h
   ·have e:(x,c)=(y,n):=by simpa using h
    cases e;have hk':k=.cell:=by simpa using hk
    subst hk';exact CZ
  ·exact D7 _<|dN r _ h
theorem gL{M:Le}{A:Dr}{E:CD->CH->Prop}{s:CH}{scope:Fm}{env:Env}{cl:List (Str×Addr)}{Q:Env->CH->Prop}
  (hQ:Q (newEnv scope s.heap.objs.size env.globals (cellsFrom (s.heap.objs.size+1) scope.names cl) env.qual none .none (some env) builtinsNs) {s with heap:=pushCells (s.heap.push {cls:=.type "dict",data:=.dict #[]}) scope.names}):
  wpAny M A (newFunctionEnv scope env.globals cl [] env.qual none .none<|some env) Q E s:=by
 simp only[newFunctionEnv,JX,if_true];refine Cy<|wpAny_alloc ?_;refine Cy (wpAny_layCells _ (fun name kind cells=>by cases hkc:kind==JI<;>simp[hkc]) _ _ _ _ ?_);rw[show({s with heap:=s.heap.push {cls:=.type "dict",data:=.dict #[]}}:CH).heap.objs.size=s.heap.objs.size+1 from DJ ..];simp only[GI];exact Cy<|CG<|CG hQ
section
variable{prog:CT}{w:D6}{A:Dr}{R:KA->CH->Prop}{s:CH}
theorem gX{elt target iter:Expr}{ifs:List Expr}{scope:Fm}{pos:Pos}{it acc:CD}{env:Env}(I:Nat->CH->Prop)
  (turn:∀n s,I n s->wpAny (model prog w) A (pyNext it) (fun r s₁=>match r with
   |none=>R (.ok .next) s₁
   | some v=>wpAny (model prog w) A (letOwnedTupleGo target it v) (fun _ s₁'=>wpAny (model prog w) A (assign target env v) (fun _ s₂=>
     wpAny (model prog w) A (forIn ifs true fun c r=>if r=true then do let ok <-isTrue c env (eval c env);pure (Fh ok)else pure (Fh r)) (fun ok s₃=>
      if ok=true then wpAny (model prog w) A (eval elt env) (fun x s₄=>
       wpAny (model prog w) A (call (.builtin "list.append") [acc,x]) (fun _ s₅=>∃m,m<n/\I m s₅) (fun _ _=>False) s₄) (fun _ _=>False) s₃
      else ∃m,m<n/\I m s₃) (fun _ _=>False) s₂) (fun _ _=>False) s₁') (fun _ _=>False) s₁) (fun _ _=>False) s)
  (n:Nat) (h:I n s):codeAny (model prog w) A (.compLoop (.ListComp elt [⟨target,iter,ifs,0⟩] scope pos) 0 it acc env) R s:=by
 refine codeAny_loop rfl I (fun n s hI=>?_) n h;show wpAny _ A ((compTurn (.ListComp elt [⟨target,iter,ifs,0⟩] scope pos) 0 it acc env).onRaise (fun x=>do noteFrame x env;theTreesLotGoes x)) _ _ s;refine wpAny_noted ?_;rw[compTurn_list];refine Cy<|F4<|Cy<|DW (turn n s hI) (fun r s₁ h₁=>?_) fun _ _ h'=>h'.elim;cases r with
 |none=>exact CG h₁
 |some v=>
  refine Cy<|DW h₁ (fun _ s₁' h₁'=>?_) fun _ _ h'=>h'.elim;refine Cy<|DW h₁' (fun _ s₂ h₂=>Cy<|DW h₂ (fun ok s₃ h₃=>?_) fun _ _ h'=>h'.elim) fun _ _ h'=>h'.elim;cases ok with
  |true=>
   rw[if_pos rfl]at h₃;exact Cy<|Cy<|DW h₃ (fun x s₄ h₄=>Cy<|DW h₄ (fun _ s₅ h₅=>CG<|CG ⟨rfl,h₅⟩) fun _ _ h'=>h'.elim) fun _ _ h'=>h'.elim
  |false=>
   rw[if_neg CS]at h₃;exact CG ⟨rfl,h₃⟩
end
def sZ(scope:Fm)(x:Str):Bool:=scope.names.lookup x==some .local||scope.names.lookup x==some .cell
def ao(X:Cx)(scope:Fm)(N:List Str)(s:CH)(H:Hp)(C:Addr)(fp:List Addr):Cx:=
 {X with N:=N,s₀:=s,H₀:=H,env:=compEnvC scope (cellsFrom (C+1) scope.names<|bT X.env scope.names []) C X.env,outer:=X.stack,ex:=fp,fn:=sZ scope,pn:=[],xe:=fun _ _=>False}
def aZ(cap:List (Option Nat))(σ:St):St:=cap.map fun o=>o.bind fun j=>(σ[j]?).bind id
structure CompScope(X:Cx)(scope:Fm)(N:List Str)(cap:List (Option Nat)):Prop where
 kind:scope.kind=.function
 nd:N.Nodup
 len:cap.length=N.length
 uniq:(scope.names.map (·.1)).Nodup
 free:∀x∈scope.names,x.2=.free->(X.env.kindOf x.1=some .cell\/X.env.kindOf x.1=some .free)
 cap:∀(k:Nat)(x:Str)(j:Nat),N[k]? =some x->cap[k]? =some (some j)->X.N[j]? =some x/\(x,Ek)∈scope.names
theorem cQ{α:Type}:∀{l:List (Str×α)}{x:Str}{k:α},(l.map (·.1)).Nodup->(x,k)∈l->l.lookup x=some k
 |(y,j)::r,x,k,nd,h=>by
  obtain⟨n1,n2⟩:=Ea.mp (show(y::r.map (·.1)).Nodup from nd);rw[EJ];rcases CW.mp h with e|h;·cases e;simp
  ·have:(x == y)=false:=beq_eq_false_iff_ne.mpr fun e=>n1<|e▸DU.mpr ⟨(x,k),h,rfl⟩;rw[this];exact cQ n2 h
theorem eo{env:Env}:∀{names:List (Str×FH)}{x:Str},(names.map fun(p:Str×FH)=>if(p.2==Ek&&env.scope.kind== .function&&env.kindOf p.1==some .cell)=true then(p.1,JI)else(p.1,p.2)).lookup x=
  (names.lookup x).map fun k=>if(k==Ek&&env.scope.kind== .function&&env.kindOf x==some .cell)=true then .cell else k
 | [],_=>rfl
 |(n,k)::r,x=>by
  rw[Dk];have ih:= @eo env r x;by_cases hx:x=n
  ·subst hx;by_cases hc:(k==Ek&&env.scope.kind== .function&&env.kindOf x==some .cell)=true;·simp only[hc,if_true,EJ,beq_self_eq_true,G0]
   ·rw[if_neg hc,EJ,EJ,beq_self_eq_true];simp only[G0];rw[if_neg hc]
  ·have hb:(x == n)=false:=beq_eq_false_iff_ne.mpr hx;by_cases hc:(k==Ek&&env.scope.kind== .function&&env.kindOf n==some .cell)=true;·simp only[hc,if_true,EJ,hb];exact ih
   ·rw[if_neg hc,EJ,EJ,hb];exact ih
def pT(X:Cx)(ifs:List Expr)(t:TT):Prop:=
 ∀(pins:List (Addr×Obj))(s:CH)(σ:St)(H:Hp)(Q:Bool->Hp->Prop),Inv X pins σ H s->t σ H Q->
  wpAny (model X.prog X.w) X.A (forIn ifs true fun c r=>if r=true then do let ok <-isTrue c X.env (eval c X.env);pure (Fh ok)else pure (Fh r)) (TP X pins σ Q) X.xe s
def yv:TT:=fun _ H Q=>Q true H
theorem cZ{X:Cx}:pT X [] yv:=fun _ _ _ H _ I h=>wpAny_tests_nil ⟨H,I,h⟩
theorem lU{X:Cx}{c:Expr}{t:TT}(h:PT X c t):pT X [c] t:=fun pins s σ H Q I hq=>wpAny_tests_one<|h pins s σ H Q I hq
def Keep:St->St->Prop
 | [],_=>True
 |none::a,_::b=>Keep a b
 |some v::a,some u::b=>v=u/\Keep a b
 |_,_=>False
theorem Keep.get:∀{a b:St}{j:Nat}{v:V},Keep a b->a[j]? =some (some v)->b[j]? =some (some v)
 | [],_,_,_,_,h=>by simp at h
 |none::a,_::b,0,_,_,h=>by simp at h
 |none::a,_::b,j+1,v,k,h=>Keep.get (j:=j) (a:=a) (b:=b) k h
 |some w::a,some u::b,0,v,k,h=>by
  have e:w=u:=k.1;subst e;exact h
 |some w::a,some u::b,j+1,v,k,h=>Keep.get (j:=j) (a:=a) (b:=b) k.2 h
 |none::_,[],_,_,k,_=>k.elim
 |some _::_,[],_,_,k,_=>k.elim
 |some _::_,none::_,_,_,k,_=>k.elim
def A4(cap:List (Option Nat))(g:TG)(tf:TT)(te:TE)(σ:St)(H1:Hp)(Q:VK)(J:It):Prop:=∃W:Nat->Nat->List V->Hp->Prop,(∃m,W 0 m [] H1)/\∀i m ys H,W i m ys H->ys.length<sizeLine/\
  ((J.stop i H/\∀D,H D=none->Q (.ref D) (cI H D<|.lst ys))\/
   (J.go i H/\∃N:List V->Hp->Prop,(∀ys' H',N ys' H'->∃m',m'<m/\W (i+1) m' ys' H')/\∀x H',J.yld i H x H'->g x (aZ cap σ) H' fun σ2 H2=>Keep (aZ cap σ) σ2/\tf σ2 H2 fun b H3=>if b=true then te σ2 H3 fun y H4=>N (ys++[y]) H4 else N ys H3))
def mX(cap:List (Option Nat))(wi:TI)(g:TG)(tf:TT)(te:TE):TE:=fun σ H Q=>wi σ H fun J H1=>A4 cap g tf te σ H1 Q J
theorem cM{X:Cx}{scope:Fm}{C:Addr}{x:Str}{c:Addr}(frc:∀x∈scope.names,x.2=.free->∃c,X.env.cells.lookup x.1=some c)
  (h:(cellsFrom (C+1) scope.names<|bT X.env scope.names []).lookup x=some c):(x,c)∈cellsFrom (C+1) scope.names []\/((x,Ek)∈scope.names/\X.env.cells.lookup x=some c):=by
 rw[cA,JZ]at h;cases e:(cellsFrom (C+1) scope.names []).lookup x with
 |some d=>
  rw[e]at h;have h:some d=some c:=h;cases h;exact .inl<|EB e
 |none=>
  rw[e]at h;have h:(bT X.env scope.names []).lookup x=some c:=h;rcases fZ _ _ frc h with q|q
  ·exact .inr q
  ·cases q
theorem mY{X:Cx}{scope:Fm}{C:Addr}{x:Str}{c:Addr}(uq:(scope.names.map (·.1)).Nodup)(hx:(x,Ek)∈scope.names)(hc:X.env.cells.lookup x=some c):
  (cellsFrom (C+1) scope.names<|bT X.env scope.names []).lookup x=some c:=by
 rw[cA,JZ];cases e:(cellsFrom (C+1) scope.names []).lookup x with
 |some d=>
  have h1:=cQ uq<|dN _ _<|EB e;have h2:=cQ uq hx;rw[h1]at h2;cases h2
 |none=>exact iQ _ _ hx hc
section
variable{X:Cx}{scope:Fm}{N:List Str}{cap:List (Option Nat)}{pins:List (Addr×Obj)}{σ:St}{H:Hp}{s:CH}{C:Addr}{fp:List Addr}
theorem r9{h4:Heap}(S:CompScope X scope N cap)(I:Inv X pins σ H s)(hC:s.heap.objs.size<=C)(ck:Lb h4 (C+1) (cellsFrom (C+1) scope.names []))
  (hf:∀b∈fp,FpOk X pins H b) (hlt:∀b∈fp,b<C):(ao X scope N s H C fp).Ok:=by
 have frc:∀x∈scope.names,x.2=.free->∃c,X.env.cells.lookup x.1=some c:=fun x hx hk=>I.ok.has x.1<|S.free x hx hk;have old:∀x c,X.env.cells.lookup x=some c->c<C:=fun x c e=>by
  obtain⟨v,q⟩:=I.cell x c e;exact CN q.lt hC
 have own:∀x c,(x,c)∈cellsFrom (C+1) scope.names []->C<c:=fun x c e=>(ck.empty x c e).2;refine⟨I.ok.mod,S.kind,I.ok.glob,I.ok.blt,hC,fun x y c h1 h2=>?_,fun x hx=>?_,fun x c hfn h=>?_,I.ok.hd,I.ok.frames,.inl rfl,fun b hb=>⟨D0<|hlt b hb,fun x c h=>?_⟩,I.bs,E9 I.ok.bsz I.sz,fun b o e hb=>?_,fun b hb z=>?_,I.stack,I.stkFree⟩
 ·rcases cM frc h1 with a | ⟨a1,a2⟩ <;> rcases cM frc h2 with b | ⟨b1,b2⟩
  ·exact name_of_addr ck.apart a b
  ·exact absurd (IP (own x c a)<|old y c b2)<|DH _
  ·exact absurd (IP (own y c b)<|old x c a2)<|DH _
  ·exact I.ok.inj x y c a2 b2
 ·have hx:(relabel scope X.env).names.lookup x=some .cell\/(relabel scope X.env).names.lookup x=some .free:=hx;have e:(relabel scope X.env).names.lookup x=_:=eo (env:=X.env) (names:=scope.names) (x:=x);rw[e]at hx;cases q:scope.names.lookup x with
  |none=>rw[q]at hx;rcases hx with z|z<;>cases z
  |some k=>
   have hm:=EB q;by_cases hk:k=.free
   ·subst hk;obtain⟨c,hc⟩:=frc _ hm rfl;exact⟨c,mY S.uniq hm hc⟩
   ·have hk':(k == Ek)=false:=by simpa using hk
    rw[q]at hx;simp only[G0,hk',Lg,Dm,if_false]at hx;have hkc:k=.cell:=by
     rcases hx with z|z;·exact Dp z
     ·exact absurd (Dp z) hk
    subst hkc;exact Ie.mp<|FT scope.names (C+1) _<|.inl q
 ·rcases cM frc h with a | ⟨a1,a2⟩
  ·exact E9 hC<|Fx<|own x c a
  ·have q:=cQ S.uniq a1;have z:sZ scope x=true:=hfn;unfold sZ at z;rw[q]at z;exact absurd z (by decide)
 ·rcases cM frc h with a | ⟨a1,a2⟩
  ·exact ER<|IP (hlt b hb)<|own x c a
  ·exact(hf b hb).2.2.2.2.1 x c a2
 ·rcases (hf b hb).2.2.2.1 with z | z;·exact I.ok.noex b o e z
  ·exact absurd (CN (CN (CP e) I.ok.bsz) z)<|DH _
 ·rcases CW.mp (I.stkSub b z)with q | q;·exact(hf b hb).2.1 q
  ·exact(hf b hb).2.2.1 q
theorem gM{s4:CH}(S:CompScope X scope N cap)(I:Inv X pins σ H s)(hC:s.heap.objs.size<=C)(ck:Lb s4.heap (C+1) (cellsFrom (C+1) scope.names []))
  (hf:∀b∈fp,FpOk X pins H b) (hlt:∀b∈fp,b<C) (h4:∃h' tk,s4={s with heap:=h',toks:=tk}) (hn:s4.heap.Ns C fun _=>none) (hk:∀b o,s.heap.get? b=some o->s4.heap.get? b=some o):
  Inv (ao X scope N s H C fp) [] (aZ cap σ) H s4:=by
 have frc:∀x∈scope.names,x.2=.free->∃c,X.env.cells.lookup x.1=some c:=fun x hx hk=>I.ok.has x.1<|S.free x hx hk;obtain⟨h',tk,rfl⟩:=h4;refine⟨r9 S I hC ck hf hlt,rfl,I.bare,Un.kept hk,⟨_,hn,fun i x v e1 e2 e3=>?_⟩,fun x c h=>?_,I.hok.fresh hC,fun x c h=>?_,fun p hp=>absurd (show p∈([]:List (Addr×Obj))from hp) (by simp),I.hok.kept hk,?_⟩
 ·have e1:N[i]? =some x:=e1;unfold aZ at e2;rw[CQ]at e2;cases q:cap[i]? with
  |none=>rw[q]at e2;cases e2
  |some o=>
   cases o with
   |none=>rw[q]at e2;cases e2
   |some j=>
    rw[q]at e2;obtain⟨hj,hm⟩:=S.cap i x j e1 q;have e2:σ[j]?.bind id=some v:=Dp e2;have e2':σ[j]? =some (some v):=by
     cases z:σ[j]? with
     |none=>rw[z]at e2;cases e2
     |some o=>rw[z]at e2;exact congrArg some e2
    have kd:=S.free _ hm rfl;obtain⟨m,_,hl⟩:=I.loc;obtain⟨u,r,lk⟩:=hl j x v hj e2' (by rcases kd with z|z;exact .inr<|.inl z;exact .inr<|.inr z);refine⟨u,r,.inr ?_⟩;rcases lk with⟨z,_⟩|⟨_,c,hc,hcell⟩
    ·rcases kd with q|q<;> ·rw[show X.env.kindOf x=_ from q]at z;cases z
    ·refine⟨?_,c,mY S.uniq hm hc,hcell.keeps hk⟩;have e:(relabel scope X.env).names.lookup x=_:=eo (env:=X.env) (names:=scope.names) (x:=x);rw[cQ S.uniq hm]at e;simp only[G0]at e;show(relabel scope X.env).names.lookup x=some .cell\/(relabel scope X.env).names.lookup x=some .free;rw[e];split;·exact .inl rfl
     ·exact .inr rfl
 ·rcases cM frc h with a | ⟨a1,a2⟩
  ·exact⟨_,(ck.empty x c a).1⟩
  ·obtain⟨v,q⟩:=I.cell x c a2;exact⟨v,q.keeps hk⟩
 ·rcases cM frc h with a | ⟨a1,a2⟩
  ·exact I.hok.fresh<|E9 hC<|Fx (ck.empty x c a).2
  ·exact I.freeC x c a2
 ·show(aZ cap σ).length=N.length;unfold aZ;rw[Dc,S.len]
end
abbrev dj(its:List CD)(k:Nat):Obj:={cls:=.type "list",data:=.seq its.toArray k}
section
variable{X:Cx}{scope:Fm}{N:List Str}{cap:List (Option Nat)}{tg iter elt:Expr}{ifs:List Expr}{pos:Pos}{wi:TI}{g:TG}{tf:TT}{te:TE}
theorem lb(S:CompScope X scope N cap)(hc:X.calm=true)
  (hg:∀s H C fp,PG (ao X scope N s H C fp) tg g) (hf:∀s H C fp,pT (ao X scope N s H C fp) ifs tf) (he:∀s H C fp,PE (ao X scope N s H C fp) elt te)
  {pins:List (Addr×Obj)} {σ:St} {H2:Hp} {s2:CH} {it:Addr} {fp:List Addr} {tn:Nat->Heap->Prop} {J:It} {Qv:VK} {E:CD->CH->Prop} {RR:CD->Addr->KA->CH->Prop}
  (I2:Inv X pins σ H2 s2) (T:Turn X.prog X.w X.K tg J fp it tn) (st2:tn 0 s2.heap) (f2:∀b∈fp,FpOk X pins H2 b) {W:Nat->Nat->List V->Hp->Prop} (w0:∃m,W 0 m [] H2)
  (turn:∀i m ys H,W i m ys H->ys.length< sizeLine/\((J.stop i H/\∀D,H D=none->Qv (.ref D) (cI H D<|.lst ys))\/
   (J.go i H/\∃N:List V->Hp->Prop,(∀ys' H',N ys' H'->∃m',m'<m/\W (i+1) m' ys' H')/\∀x H',J.yld i H x H'->g x (aZ cap σ) H' fun σ2 H2=>Keep (aZ cap σ) σ2/\tf σ2 H2 fun b H3=>if b=true then te σ2 H3 fun y H4=>N (ys++[y]) H4 else N ys H3)))
  (fin:∀(D C:Addr) (σ':St) (H':Hp) (s':CH) (its:List CD) (k:Nat) (ys:List V),s2.heap.objs.size<=D->s2.heap.objs.size<=C->D≠C->Inv (ao X scope N s2 H2 C fp) [(D,dj its k)] σ' H' s'->Vals ys its->ys.length<=sizeLine->
   Qv (.ref D) (cI H' D (.lst ys))->RR (.ref D) C (.ok .next) s'):
  wpAny (model X.prog X.w) X.A (newList []) (fun acc s₃=>wpAny (model X.prog X.w) X.A (newFunctionEnv scope X.env.globals (bT X.env scope.names []) [] X.env.qual none .none<|some X.env) (fun cenv s₄=>
   codeAny (model X.prog X.w) X.A (.compStart (.ListComp elt [⟨tg,iter,ifs,0⟩] scope pos) 0 (.ref it) acc {cenv with scope:=relabel scope X.env}) (RR acc cenv.locals) s₄) E s₃) E s2:=by
 refine DK<|gL ?_;generalize hD:s2.heap.objs.size=D;generalize hH3:s2.heap.push {cls:=.type "list",dict:=none,data:=.seq ([]:List CD).toArray}=h3;have hz3:h3.objs.size=D+1:=by rw[<-hH3,DJ,hD]
 dsimp only;have eC:({s2 with heap:=h3}:CH).heap.objs.size=D+1:=hz3;rw[show h3.objs.size=D+1 from hz3];generalize hH4:pushCells (h3.push {cls:=.type "dict",data:=.dict #[]}) scope.names=h4;have hz3':(h3.push {cls:=.type "dict",data:=.dict #[]}).objs.size=D+1+1:=by rw[DJ,hz3]
 have ck:Lb h4 (D+1+1) (cellsFrom (D+1+1) scope.names []):=by
  have:=Km scope.names (h3.push {cls:=.type "dict",data:=.dict #[]}) (D+1+1) [] ⟨fun _ _ hm=>(nomatch hm),Fz⟩ (by rw[hz3'];exact CU _);rw[hz3',hH4]at this;exact this
 have k23:∀b o,s2.heap.get? b=some o->h3.get? b=some o:=fun b o e=>by rw[<-hH3];exact CB _ e
 have k34:∀b o,h3.get? b=some o->h4.get? b=some o:=fun b o e=>by rw[<-hH4];exact G1 _ _ b o<|CB _ e
 have hD4:h4.get? D=some (dj [] 0):=k34 _ _ (by rw[<-hH3,<-hD];exact CM _ rfl);have hn4:h4.Ns (D+1) fun _=>none:=by
  rw[<-hH4,<-hz3];exact(KU h3<|.type "dict").keeps (G1 _ _)
 have fpD:∀b∈fp,b<D:=fun b hb=>by
  obtain⟨o,e,_⟩:=T.obj _ _ st2 b hb;rw[<-hD];exact CP e
 have hlt:∀b∈fp,b<D+1:=fun b hb=>GJ<|fpD b hb;have hDC:s2.heap.objs.size<=D+1:=by rw[hD];exact G9 _
 have hDs:s2.heap.objs.size<=D:=by rw[hD];exact CU _
 have IC:Inv (ao X scope N s2 H2 (D+1) fp) [] (aZ cap σ) H2 {s2 with heap:=h4}:=
  gM S I2 hDC ck f2 hlt ⟨_,_,rfl⟩ hn4 fun b o e=>k34 b o<|k23 b o e
 have okC:=IC.ok;have nfs:∀{b:Addr},s2.heap.objs.size<=b->b∉frs X.stack:=fun{b}hb hm=>by
  obtain⟨_,o,ho,_⟩:=I2.stack.mem hm;exact absurd (CN (CP ho) hb)<|DH _
 have frc:∀x∈scope.names,x.2=.free->∃c,X.env.cells.lookup x.1=some c:=fun x hx hk=>I2.ok.has x.1<|S.free x hx hk;have cellsD:∀x c,(ao X scope N s2 H2 (D+1) fp).env.cells.lookup x=some c->c≠D:=fun x c e=>by
  rcases cM frc e with a|⟨_,a⟩
  ·have q:D+1+1<=c:=(ck.empty x c a).2;exact ER<|CN (CN (EK D)<|G9 _) q
  ·obtain⟨v,q⟩:=I2.cell x c a;have:=q.lt;rw[hD]at this;exact D0 this
 have fpO:∀{H':Hp}{its:List CD}{k:Nat},(∀b∈fp,H' b=none)->∀b∈fp,FpOk (ao X scope N s2 H2 (D+1) fp) [(D,dj its k)] H' b:=fun{H' its k}hn b hb=>
  ⟨hn b hb,D0<|hlt b hb,okC.exfs b hb,.inl hb,(okC.exf b hb).2,fun p hp=>by
   have e:p=(D,dj its k):=by simpa [ao] using hp
   subst e;exact ER (fpD b hb)⟩
 have pinD:∀{σ':St}{H':Hp}{s':CH}{its:List CD}{k:Nat},Inv (ao X scope N s2 H2 (D+1) fp) [] σ' H' s'->s'.heap.get? D=some (dj its k)->H' D=none->Inv (ao X scope N s2 H2 (D+1) fp) [(D,dj its k)] σ' H' s':=fun{σ' H' s' its k}J e n=>
  J.pins_of fun p hp=>by
   have e':p=(D,dj its k):=by simpa using hp
   subst e';exact⟨e,n,D0<|EK _,nfs hDs,fun v z=>by
    have z':Iu its.toArray k=FG v:=z;cases z'⟩
 have loop:codeAny (model X.prog X.w) X.A (.compLoop (.ListComp elt [⟨tg,iter,ifs,0⟩] scope pos) 0 (.ref it) (.ref D) (ao X scope N s2 H2 (D+1) fp).env) (RR (.ref D)<|D+1) {s2 with heap:=h4}:=by
  obtain⟨m0,w0⟩:=w0;refine gX (fun n s'=>∃i ys its k σ' H',Inv (ao X scope N s2 H2 (D+1) fp) [(D,dj its k)] σ' H' s'/\tn i s'.heap/\(∀b∈fp,H' b=none)/\Vals ys its/\(∀(j:Nat)(v:V),(aZ cap σ)[j]? =some (some v)->σ'[j]? =some (some v))/\W i n ys H') ?_ m0
   ⟨0,[],[],0,aZ cap σ,H2,pinD IC hD4<|I2.hok.fresh hDs,T.keep _ _ _ st2 fun b hb o e=>k34 b o<|k23 b o e,fun b hb=>(f2 b hb).1,.nil,fun _ _ e=>e,w0⟩
  rintro n s3 ⟨i,ys,its,k,σ3,H3,I3,st3,fr3,rv,kp,w3⟩;obtain⟨hyl,tr⟩:=turn i n ys H3 w3;have pin3:=I3.pin (D,dj its k)<|Dd _ CZ;rcases tr with⟨stop,qn⟩|⟨go,NN,hNN,step⟩
  ·refine bF (T.done (ao X scope N s2 H2 (D+1) fp) rfl rfl rfl hc i _ s3 σ3 H3 _ I3 (fpO fr3) st3 stop) fun r s4 zz=>?_;obtain⟨hr,I4⟩:=zz;subst hr;exact fin D (D+1) σ3 H3 s4 its k ys hDs hDC (D0<|EK _) I4 rv (Fx hyl)<|qn D pin3.2.1
  ·have I3':Inv (ao X scope N s2 H2 (D+1) fp) [(D,dj its k)] (aZ cap σ) H3 s3:=I3.weak (by rw[I3.len,IC.len]) kp;refine bF (T.item (ao X scope N s2 H2 (D+1) fp) rfl rfl rfl hc i _ s3 _ H3 _ I3' (fpO fr3) st3 go) fun r s4 zz=>?_;obtain⟨u,hr,h4⟩:=zz;subst hr;refine bF h4 fun _ s5 zz=>?_;obtain⟨x,H5,I5,r5,y5,st5,fr5⟩:=zz;have I5':=I5.pinned (fpO fr5)<|T.obj _ _ st5;refine bF (hg _ _ _ _ _ s5 _ H5 x u _ I5' r5<|step x H5 y5) fun _ s6 zz=>?_;obtain⟨σ6,H6,I6,kp6,q6⟩:=zz;refine bF (hf _ _ _ _ _ s6 σ6 H6 _ I6 q6) fun ok s7 zz=>?_;obtain⟨H7,I7,q7⟩:=zz;have back:∀{s8:CH}{H8:Hp},Inv (ao X scope N s2 H2 (D+1) fp) ([(D,dj its k)]++gJ fp s5.heap) σ6 H8 s8->tn (i+1) s8.heap/\(∀b∈fp,H8 b=none)/\s8.heap.get? D=some (dj its k)/\H8 D=none:=fun{s8 H8}I8=>by
    have at_:∀b∈fp,∀o,s5.heap.get? b=some o->s8.heap.get? b=some o/\H8 b=none:=fun b hb o e=>by
     have z:=I8.pin (b,o)<|Dd _<|Dd _<|dt hb e;exact⟨z.1,z.2.1⟩
    have pd:=I8.pin (D,dj its k)<|Dd _<|EI _ CZ;refine⟨T.keep _ _ _ st5 fun b hb o e=>(at_ b hb o e).1,fun b hb=>?_,pd.1,pd.2.1⟩;obtain⟨o,e,d⟩:=T.obj _ _ st5 b hb;exact(at_ b hb o e).2
   cases ok with
   |false=>
    rw[if_neg CS]at q7 ⊢;obtain⟨m',hm,w'⟩:=hNN _ _ q7;obtain⟨t7,f7,d7,n7⟩:=back I7;exact⟨m',hm,i+1,ys,its,k,σ6,H7,I7.unpinned,t7,f7,rv,fun j v e=>Keep.get kp6 e,w'⟩
   |true=>
    rw[if_pos rfl]at q7 ⊢;refine bF (he _ _ _ _ _ s7 σ6 H7 _ I7 q7) fun y8 s8 zz=>?_;obtain⟨y,H8,I8,r8,q8⟩:=zz;obtain⟨m',hm,w'⟩:=hNN _ _ q8;obtain⟨t8,f8,d8,n8⟩:=back I8;refine append_at (D:=D) (its:=its.toArray) (n:=k) d8 (fun h' hs' hD'=>?_) (by rw[CY,<-rv.length];exact Fx hyl);have J0:Inv (ao X scope N s2 H2 (D+1) fp) [] σ6 H8 s8:=I8.pins_of fun p hp=>by cases hp
    have J1:Inv (ao X scope N s2 H2 (D+1) fp) [] σ6 H8 {s8 with heap:=h'}:=J0.turned (it:=D) (t':=s8.toks) (fun b o hb e=>(hs'.2 b hb).trans e) n8 (D0<|EK _) (.inr hDs) cellsD fun p hp=>by
     have:p∈([]:List (Addr×Obj)):=hp;cases this
    refine⟨m',hm,i+1,ys++[y],its++[y8],k+1,σ6,H8,pinD J1 (by simpa using hD') n8,T.keep _ _ _ t8 fun b hb o e=>(hs'.2 b<|D0<|fpD b hb).trans e,f8,rv.append<|.cons r8 .nil,fun j v e=>Keep.get kp6 e,w'⟩
 exact IQ loop<|DW (T.self _ 0 _ _ _ (T.keep _ _ _ st2 fun b hb o e=>k34 b o<|k23 b o e) loop) (fun _ _ h=>h) fun _ _ h=>h
end
section
variable{X:Cx}{scope:Fm}{N:List Str}{cap:List (Option Nat)}{tg iter elt:Expr}{ifs:List Expr}{pos:Pos}{wi:TI}{g:TG}{tf:TT}{te:TE}
theorem jx{pins:List (Addr×Obj)}{σ σ':St}{H2 H':Hp}{s2 s':CH}{fp:List Addr}{D C:Addr}{its:List CD}{k:Nat}{ys:List V}{h':Heap}(I2:Inv X pins σ H2 s2)(f2:∀b∈fp,FpOk X pins H2 b)
  (hD:s2.heap.objs.size<=D) (hC:s2.heap.objs.size<=C) (hDC:D≠C) (I':Inv (ao X scope N s2 H2 C fp) [(D,dj its k)] σ' H' s') (rv:Vals ys its) (hl:ys.length<=sizeLine) (hs:D5 C s'.heap h'):
  Inv X pins σ (cI H' D<|.lst ys) {s' with heap:=h'}:=by
 have pd:=I'.pin (D,dj its k)<|Dd _ CZ;have nD:H' D=none:=pd.2.1;have nC:H' C=none:=I'.free;have lt2:∀b o,s2.heap.get? b=some o->b≠D/\b≠C:=fun b o e=>⟨D0<|CN (CP e) hD,D0<|CN (CP e) hC⟩
 have hk:∀b o,b≠C->s'.heap.get? b=some o->h'.get? b=some o:=fun b o hb e=>(hs.2 b hb).trans e;have B:Un (frs X.stack) fp H2 H' s2.heap s'.heap:=I'.base;have tr:∀b u,H' b=some u->b≠D/\b≠C:=fun b u e=>⟨fun z=>(by rw[z,nD]at e;cases e),fun z=>(by rw[z,nC]at e;cases e)⟩
 refine I2.call' (ch:=fp) I'.os ⟨fun b o e n hb hx=>?_,fun b o e n hb hx=>?_,fun b o e n hx=>?_,fun b o e hx=>?_,fun b xs e=>?_,fun b o u e=>?_,fun b ps e=>?_⟩ (fun b u e=>?_) I'.bare fun b hb=>⟨(f2 b hb).2.2.2.1,(f2 b hb).2.1,(f2 b hb).2.2.2.2.1,(f2 b hb).2.2.2.2.2⟩
 ·exact hk b o (lt2 b o e).2 (B.keep b o e n hb hx)
 ·obtain⟨sl,q⟩:=B.slot b o e n hb hx;exact⟨sl,hk b _ (lt2 b o e).2 q⟩
 ·rw[ax (lt2 b o e).1];exact B.free b o e n hx
 ·obtain⟨o',q⟩:=B.there b o e hx;exact⟨o',hk b _ (lt2 b o e).2 q⟩
 ·rw[ax (tr b _<|B.tups b xs e).1];exact B.tups b xs e
 ·rw[ax (tr b _<|B.frzs b o u e).1];exact B.frzs b o u e
 ·obtain⟨more,q⟩:=B.tbls b ps e;exact⟨more,by rw[ax (tr b _ q).1];exact q⟩
 ·by_cases hb:b=D
  ·subst hb;rw[aG]at e;cases e;exact⟨hl,its,k,rv,hk _ _ hDC pd.1⟩
  ·rw[ax hb]at e;refine(I'.hok b u e).stay (fun c w' hc q=>hk c w' ?_ q) (fun c q=>by rw[ax (tr c _ q).1];exact q) fun c xs q=>by rw[ax (tr c _ q).1];exact q
   rcases hc with z|z;·rw[z];exact(tr b u e).2
   ·exact(tr c _ z).2
theorem eA(S:CompScope X scope N cap):∀x∈scope.names,x.2=.local->scope.names.lookup x.1=some .local:=fun x hx hl=>cQ S.uniq (by rw[<-hl];exact hx)
theorem fw(S:CompScope X scope N cap)(hc:X.calm=true)(hi:PI X tg iter wi)
  (hg:∀s H C fp,PG (ao X scope N s H C fp) tg g) (hf:∀s H C fp,pT (ao X scope N s H C fp) ifs tf) (he:∀s H C fp,PE (ao X scope N s H C fp) elt te)
  (hs:∀x,foldedSetIterable iter X.env x=pure x:=by intro _;rfl):PE X (.ListComp elt [⟨tg,iter,ifs,0⟩] scope pos) (mX cap wi g tf te):=by
 intro pins s σ H Q I h;rw[LU];have frc:∀x∈scope.names,x.2=.free->∃c,X.env.cells.lookup x.1=some c:=fun x hx hk=>I.ok.has x.1<|S.free x hx hk;refine F7 (use:=none) rfl hs (cT frc) S.kind (eA S)<|bF (hi pins s σ H _ I h) fun v s1 h1=>bF h1 fun itv s2 h2=>?_;obtain⟨it,fp,tn,J,H2,rfl,I2,T,st2,f2,W,w0,turn⟩:=h2;refine lb (RR:=fun acc C=>compPost (model X.prog X.w) X.A X.xe none (EP X pins σ Q) acc C) S hc hg hf he I2 T st2 f2 w0 turn fun D C σ' H' s' its k ys hD hC hDC I' rv hl q=>?_;obtain⟨m,hn,_⟩:=I'.loc;exact⟨m,hn,fun h' hs'=>⟨.ref D,_,jx I2 f2 hD hC hDC I' rv hl hs',rfl,q⟩⟩
end
section
variable{X:Cx}{scope:Fm}{N:List Str}{cap:List (Option Nat)}{tg iter elt:Expr}{ifs:List Expr}{pos spos py:Pos}{wi:TI}{g:TG}{tf:TT}{te:TE}{i:Nat}{y:Str}
theorem jy(hN:X.N.Nodup)(hi':X.N[i]? =some y)(hy:xK X.env.scope y)(S:CompScope X scope N cap)(hc:X.calm=true)(hi:PI X tg iter wi)
  (hg:∀s H C fp,PG (ao X scope N s H C fp) tg g) (hf:∀s H C fp,pT (ao X scope N s H C fp) ifs tf) (he:∀s H C fp,PE (ao X scope N s H C fp) elt te)
  (hsw:swapsWith (.ListComp elt [⟨tg,iter,ifs,0⟩] scope pos) (some<|.Name y py) spos.line X.env=pure true:=by rfl)
  (hs:∀x,foldedSetIterable iter X.env x=pure x:=by intro _;rfl) (hfn:X.fn y=true\/X.env.scope.names.lookup y=some .local:=by first|exact .inl rfl|exact .inr rfl|assumption):
  PS X (.Assign [.Name y py] (.ListComp elt [⟨tg,iter,ifs,0⟩] scope pos) spos) (bP (mX cap wi g tf te)<|aV i):=by
 intro pins s σ H D I h;rw[exec_Assign_Name_used _ _ _ _ hsw];refine Cy<|F4<|Cy ?_;show wpAny _ X.A (do let _ <-comprehension (.ListComp elt [⟨tg,iter,ifs,0⟩] scope pos) scope X.env _ (newList []) false (eval iter X.env) (some<|assign (.Name y py) X.env)) _ _ s;have frc:∀x∈scope.names,x.2=.free->∃c,X.env.cells.lookup x.1=some c:=fun x hx hk=>I.ok.has x.1<|S.free x hx hk;refine Cy<|DW (F7 (use:=some<|assign (.Name y py) X.env) (Q:=fun _ s'=>SP X pins D .next s') rfl hs (cT frc) S.kind (eA S)<|bF (hi pins s σ H _ I h) fun v s1 h1=>bF h1 fun itv s2 h2=>?_) (fun _ s' hq=>CG<|CG hq) fun _ _ e=>e;obtain⟨it,fp,tn,J,H2,rfl,I2,T,st2,f2,W,w0,turn⟩:=h2;refine lb (Qv:=fun x H1=>aV i x σ H1 D.nx) (RR:=fun acc C=>compPost (model X.prog X.w) X.A X.xe (some<|assign (.Name y py) X.env) (fun _ s'=>SP X pins D .next s') acc C) S hc hg hf he I2 T st2 f2 w0 turn fun d C σ' H' s' its k ys hD hC hDC I' rv hl q=>?_;obtain⟨m,hn,_⟩:=I'.loc;have I3:Inv X pins σ (cI H' d<|.lst ys) s':=jx (h':=s'.heap) I2 f2 hD hC hDC I' rv hl<|.refl ..;have nC:(cI H' d<|.lst ys) C=none:=by rw[ax<|F3 hDC];exact I'.free
 have cL:C≠X.env.locals:=fun z=>absurd (CN I2.lt hC) (by rw[z];exact DH _);have cc:∀x c,X.env.cells.lookup x=some c->c≠C:=fun x c e z=>by
  obtain⟨v,q⟩:=I2.cell x c e;exact absurd (CN q.lt hC) (by rw[z];exact DH _)
 show wpAny _ X.A (assign (.Name y py) X.env<|.ref d) _ _ _;refine Ke<|kX (v:=.ref d) I3 hN hi' hy rfl (fun s4 I4⟨a,sb,ha⟩=>?_) hfn;have aC:C≠a:=by
  rcases ha with z|z;·rw[z];exact cL
  ·exact F3<|cc _ _ z
 refine⟨m,hn.sameBut sb aC,fun h' hs'=>?_⟩;exact⟨_,_,I4.turned (it:=C) (t':=s4.toks) (fun b o hb e=>(hs'.2 b hb).trans e) nC cL (.inr<|E9 I2.sz hC) cc (fun p hp z=>absurd (CN (CP (I2.pin p hp).1) hC) (by rw[z];exact DH _)),q⟩
end
inductive Src where
 |lst (a:Addr)|tup (a:Addr)|str (l:List Nat)
def Src.has(K:CF)(H:Hp):Src->List V->Prop
 | .lst a,xs=>SqL K H a xs
 | .tup a,xs=>SqT K H a xs
 | .str l,xs=>xs=l.map fun c=>GW<|sOf [c]
def Src.at(it:Addr)(i:Nat)(h:Heap):Src->Prop
 | .lst a=>h.IsListIter it a i
 | .tup a=>h.IsTupleIter it a i
 | .str l=>∃t,h.IsStrIter it "str_ascii_iterator" (sOf l) t i\/h.IsStrIter it "str_iterator" (sOf l) t i
def Src.val:Src->V
 | .lst a=>.ref a
 | .tup a=>.ref a
 | .str l=>.str<|sOf l
section
variable{P:CT}{w:D6}{A:Dr}{E:CD->CH->Prop}{s:CH}
theorem lV{j a:Addr}{k:Nat}{us:Array CD}{x:CD}{Q:CD->CH->Prop}(g:s.heap.IsTupleIter j a k)(ga:s.heap.IsTuple a us)(gx:us[k]? =some x)
  (q:∀h',h'.IsTupleIter j a (k+1)->D5 j s.heap h'->Q x {s with heap:=h'}):wpAny (model P w) A (Di<|.ref j) Q E s:=by
 obtain⟨ob,e1,e2,e3⟩:=id g;obtain⟨ot,f1,_,nn,f3⟩:=ga;unfold Di;refine Cy<|DD (name:=CI "__next__") g.typeIs EU<|Dy EU g.typeIs GB ?_<|Gw _;show wpAny (model P w) _ (field (.ref j) 0>>=_) _ _ s;refine Cy<|Dl e1 e3 (x:=.ref a) rfl ?_;show wpAny (model P w) _ (if(D8 a==Df)=true then _ else _) _ _ s;rw[if_neg (show ¬((D8 a==Df)=true)from CS)];show wpAny (model P w) _ (field (.ref j) 1>>=_) _ _ s;refine Cy<|Dl e1 e3 (x:=.int k 0) rfl ?_;show wpAny (model P w) _ (seqItems? (.ref a)>>=_) _ _ s;refine Cy<|DL f1 f3 ?_;simp only[DY,gx];refine Cy (Ed e1 e3 (by simp) (CG ⟨x,rfl,CG (q _ ⟨_,DS _ e1<|F2<|Es e3 _,(HX ..).trans e2,(by rw[Es e3];simp[rawInt])⟩<|E4 ..)⟩))
theorem mZ{j a:Addr}{k:Nat}{us:Array CD}{Q:CD->CH->Prop}(hh:A.handled=none)(g:s.heap.IsTupleIter j a k)(ga:s.heap.IsTuple a us)(gx:us[k]? =none)
  (q:∀h' e,F9 j s.heap h'->(∃o,h'.get? e=some o/\o.cls=.type "StopIteration")->E (.ref e) {s with heap:=h'}):wpAny (model P w) A (Di<|.ref j) Q E s:=by
 obtain⟨ob,e1,e2,e3⟩:=id g;obtain⟨ot,f1,_,nn,f3⟩:=ga;unfold Di;refine Cy<|DD (name:=CI "__next__") g.typeIs EU<|Dy EU g.typeIs GB ?_<|Gw _;show wpAny (model P w) _ (field (.ref j) 0>>=_) _ _ s;refine Cy<|Dl e1 e3 (x:=.ref a) rfl ?_;show wpAny (model P w) _ (if(D8 a==Df)=true then _ else _) _ _ s;rw[if_neg (show ¬((D8 a==Df)=true)from CS)];show wpAny (model P w) _ (field (.ref j) 1>>=_) _ _ s;refine Cy<|Dl e1 e3 (x:=.int k 0) rfl ?_;show wpAny (model P w) _ (seqItems? (.ref a)>>=_) _ _ s;refine Cy<|DL f1 f3 ?_;simp only[DY,gx];refine Cy (FV (Cy (Ed e1 e3 (by simp) ?_)));show wpAny (model P w) _ (newExc (.type "StopIteration") []>>=_) _ _ _;refine Cy ?_;simp only[newExc,newTuple];refine Cy (DK (Cy (m:=firstArgMember _ _) (HY (a:=Df) (by first|rfl|(simp only[firstArgMember];rfl)) (DK ?_ (by size_fits)))) (by size_fits));simp only[raiseNew];refine Cy<|Ih ?_
 first|rw[show A.in1.handled=none from hh]|rw[hh]
 exact Cy<|CG<|Js<|q _ _ (((E4 ..).extBut.push _).push _) ⟨_,CM _ rfl,rfl⟩
theorem t9(hh:A.handled=none)(j a:Addr)(ne:a≠j)(us:Array CD):J4 P w A j [j,a] us.size (fun k v=>us[k]? =some v) (fun k h=>h.IsTupleIter j a k/\h.IsTuple a us) where
 live:=fun _ _ st=>by obtain⟨⟨o,e,_⟩,_⟩:=st;exact⟨o,e⟩
 frame:=fun _ _ _ st hk=>⟨st.1.at fun o e=>hk j (by simp) o e,by obtain⟨o,e,r⟩:=st.2;exact⟨o,hk a (by simp) o e,r⟩⟩
 item:=fun k s Q E hk st q=>lV st.1 st.2 (x:=us[k]) (by simp[hk]) fun h' g' sb=>q _ h' s.toks (by simp[hk]) ⟨g',by obtain⟨o,e,r⟩:=st.2;exact⟨o,(sb.2 a ne).trans e,r⟩⟩ sb
 done:=fun s Q E st q=>mZ hh st.1 st.2 (by simp) q
theorem Src.draws{X:Cx}{pins:List (Addr×Obj)}{σ:St}{H:Hp}{s0:CH}{c:Src}{xs:List V}{it:Addr}{i:Nat}(hh:A.handled=none)(I:Inv X pins σ H s0)(hs:c.has X.K H xs)(ht:c.at it i s0.heap)(hit:H it=none):
  ∃(fp:List Addr)(Pt:Nat->CD->Prop)(St:Nat->Heap->Prop),J4 X.prog X.w A it fp xs.length Pt St/\St i s0.heap/\(∀k v,Pt k v-> ∃x,xs[k]? =some x/\RelV x v)/\(∀k h,St k h->c.at it k h)/\it∈fp/\
   ∀b∈fp,b=it\/H b≠none\/∃o,X.base.get? b=some o:=by
 cases c with
 |lst a=>
  obtain⟨its,rv,p,hz⟩:=I.list hs;have ne:a≠it:=fun z=>by
   obtain⟨o,e,c1,_⟩:=(show s0.heap.IsListIter it a i from ht)
   obtain⟨o2,e2,c2,_⟩:=p.isList;rw[z,e]at e2;cases e2;rw[c1]at c2;exact absurd c2 (by decide)
  have dr:=Draws.list (prog:=X.prog) (w:=X.w) hh it a ne its.toArray;rw[CY,<-rv.length]at dr;refine⟨_,_,_,dr,⟨ht,p.isList⟩,fun k v e=>?_,fun k h st=>st.1,by simp,fun b hb=>?_⟩
  ·have e:its[k]? =some v:=by simpa using e
   have hk:k<xs.length:=by rw[rv.length];exact(CL.mp e).1
   obtain⟨u,hu,ru⟩:=rv.get (i:=k) (x:=xs[k]) (by simp[hk]);rw[e]at hu;cases hu;exact⟨_,by simp[hk],ru⟩
  ·rcases CW.mp hb with z | z;·exact .inl z
   ·have z:b=a:=by simpa using z
    subst z;rcases (show SqL X.K H b xs from hs)with(z|⟨o,z⟩)|⟨o,_,_,z,_⟩
    ·exact .inr (.inl (by rw[z];simp))
    ·exact .inr (.inl (by rw[z];simp))
    ·exact .inr<|.inr ⟨_,I.mod.kin _ _ z⟩
 |tup a=>
  obtain⟨its,rv,p,hz⟩:=I.tuple hs;have p:s0.heap.IsTuple a its.toArray:=p;have ne:a≠it:=fun z=>by
   obtain⟨o,e,c1,_⟩:=(show s0.heap.IsTupleIter it a i from ht)
   obtain⟨o2,e2,c2,_⟩:=id p;rw[z,e]at e2;cases e2;rw[c1]at c2;exact absurd c2 (by decide)
  have dr:=t9 (P:=X.prog) (w:=X.w) hh it a ne its.toArray;rw[CY,<-rv.length]at dr;refine⟨_,_,_,dr,⟨ht,p⟩,fun k v e=>?_,fun k h st=>st.1,by simp,fun b hb=>?_⟩
  ·have e:its[k]? =some v:=by simpa using e
   have hk:k<xs.length:=by rw[rv.length];exact(CL.mp e).1
   obtain⟨u,hu,ru⟩:=rv.get (i:=k) (x:=xs[k]) (by simp[hk]);rw[e]at hu;cases hu;exact⟨_,by simp[hk],ru⟩
  ·rcases CW.mp hb with z | z;·exact .inl z
   ·have z:b=a:=by simpa using z
    subst z;rcases (show SqT X.K H b xs from hs)with(z|⟨o,z⟩)|⟨o,_,_,z,_⟩
    ·exact .inr (.inl (by rw[z];simp))
    ·exact .inr (.inl (by rw[z];simp))
    ·exact .inr<|.inr ⟨_,I.mod.kin _ _ z⟩
 |str l=>
  have hs:xs=l.map fun c=>GW (sOf [c]):=hs;obtain⟨t,ht⟩:=(show ∃t,s0.heap.IsStrIter it "str_ascii_iterator" (sOf l) t i\/s0.heap.IsStrIter it "str_iterator" (sOf l) t i from ht)
  have hn:(sOf l).cps.size=xs.length:=by rw[hs];simp[sOf]
  have sg:∀(k:Nat)(v:CD),(∃c u,(sOf l).cps[k]? =some c/\v=.str ⟨#[c]⟩ u)->∃x,xs[k]? =some x/\RelV x v:=fun k v⟨c,u,e,ev⟩=>by
   have e:l[k]? =some c:=by simpa [sOf] using e
   exact⟨.str<|sOf [c],by rw[hs];simp[e],⟨u,ev⟩⟩
  rcases ht with ht|ht;·exact⟨_,_,_,hn▸Draws.strAscii hh it (sOf l) t,ht,sg,fun k h st=>⟨t,.inl st⟩,by simp,fun b hb=>.inl (by simpa using hb)⟩
  ·exact⟨_,_,_,hn▸Draws.strWide hh it (sOf l) t,ht,sg,fun k h st=>⟨t,.inr st⟩,by simp,fun b hb=>.inl (by simpa using hb)⟩
end
def eD(v:CD)(h:Heap)(o:Obj):Prop:=∀(prog:CT)(w:D6)(A:Dr)(E:CD->CH->Prop)(Q:CD->CH->Prop)(s:CH),s.heap=h->Q (.ref h.objs.size) {s with heap:=h.push o}->wpAny (model prog w) A (pyIter v) Q E s
def A5(h:Heap)(o1 o2:Obj):Heap:=((h.push o1).push o2).push {cls:=.type "tuple",data:=.seq #[.ref h.objs.size,.ref (h.push o1).objs.size]}
def A6(h:Heap)(o1 o2:Obj):Heap:=(A5 h o1 o2).push {cls:=.type "tuple",data:=.seq #[.none,.none]}
def zE(h:Heap)(o1 o2:Obj):Heap:=(A6 h o1 o2).push {cls:=.type "zip",data:=.fields #[.none,.bool false,.bool false,.ref ((h.push o1).push o2).objs.size,.ref (A5 h o1 o2).objs.size]}
theorem lW(v1 v2:CD)(o1 o2:Obj):Meets (Fq.«zip.__new__» ⟨[.type "zip",v1,v2],[]⟩) (fun _ R s=>eD v1 s.heap o1/\eD v2 (s.heap.push o1) o2/\R (.ok<|.ret<|.ref (A6 s.heap o1 o2).objs.size) {s with heap:=zE s.heap o1 o2}):=
 .of_wp fun prog w A R s h=>by
  obtain⟨hp,g,d,tk,os⟩:=s;obtain⟨i1,i2,h⟩:=h;have hsub:=sub_zip;have j1:=fun(A:Dr)(E:CD->CH->Prop)(Q:CD->CH->Prop)(q:Q _ _)=>i1 prog w A E Q ⟨hp,g,d,tk,os⟩ rfl q;have j2:=fun(A:Dr)(E:CD->CH->Prop)(Q:CD->CH->Prop)(q:Q _ _)=>i2 prog w A E Q ⟨hp.push o1,g,d,tk,os⟩ rfl q
  wp_walk using j1 _ _ _,j2 _ _ _
  exact⟨_,rfl,h⟩
theorem rd{P:CT}{w:D6}{A:Dr}{E:CD->CH->Prop}{s:CH}{v1 v2:CD}{o1 o2:Obj}{Q:CD->CH->Prop}(i1:eD v1 s.heap o1)(i2:eD v2 (s.heap.push o1) o2)
  (f1:o1.isFreed=false) (f2:o2.isFreed=false)
  (q:∀h',FQ h' (s.heap.objs.size+4) (s.heap.objs.size+2) (s.heap.objs.size+3) .none->Gx h' (s.heap.objs.size+2) (.ref s.heap.objs.size) (.ref<|s.heap.objs.size+1)->Gx h' (s.heap.objs.size+3) .none .none->
   h'.get? s.heap.objs.size=some o1->h'.get? (s.heap.objs.size+1)=some o2->(∀c o,s.heap.get? c=some o->h'.get? c=some o)->Q (.ref (s.heap.objs.size+4)) {s with heap:=h'}):
  wpAny (model P w) A (call (.type "zip") [v1,v2]) Q E s:=by
 refine callType_new K0 (by decide) (PySem.F.typeCall_zip_2 _ _) (PySem.F.newCall_zip_2 _ _) (fun obj=>PySem.F.args_object_init_3 obj _ _) Jc (lW v1 v2 o1 o2) ⟨i1,i2,?_⟩;have z1:(s.heap.push o1).objs.size=s.heap.objs.size+1:=DJ ..;have z2:((s.heap.push o1).push o2).objs.size=s.heap.objs.size+2:=by rw[DJ,z1]
 have z3:(A5 s.heap o1 o2).objs.size=s.heap.objs.size+3:=by unfold A5;rw[DJ,z2]
 have z4:(A6 s.heap o1 o2).objs.size=s.heap.objs.size+4:=by unfold A6;rw[DJ,z3]
 have g5:(zE s.heap o1 o2).get? (A6 s.heap o1 o2).objs.size=some _:=CM _ rfl;have g4:(zE s.heap o1 o2).get? (A5 s.heap o1 o2).objs.size=some _:=CB _<|CM _ rfl;have g3:(zE s.heap o1 o2).get? ((s.heap.push o1).push o2).objs.size=some _:=CB _<|CB _<|CM _ rfl;have g2:(zE s.heap o1 o2).get? (s.heap.push o1).objs.size=some o2:=CB _<|CB _<|CB _<|CM _ f2;have g1:(zE s.heap o1 o2).get? s.heap.objs.size=some o1:=CB _<|CB _<|CB _<|CB _<|CM _ f1;show _/\_;rw[z2,z3,z4]at g5;rw[z1,z2]at g3;rw[z3]at g4;rw[z1]at g2;rw[z4];exact⟨⟨_,g5,rfl⟩,q _ g5 g3 g4 g1 g2 fun c o x=>CB _<|CB _<|CB _<|CB _<|CB _ x⟩
theorem Src.iter{X:Cx}{pins:List (Addr×Obj)}{σ:St}{H:Hp}{s:CH}{c:Src}{xs:List V}{v:CD}{h:Heap}(I:Inv X pins σ H s)(hs:c.has X.K H xs)(rv:RelV c.val v)(k:∀b o,s.heap.get? b=some o->h.get? b=some o):
  ∃o,eD v h o/\o.isFreed=false/\(∀h':Heap,h'.get? h.objs.size=some o->c.at h.objs.size 0 h'):=by
 cases c with
 |lst a=>
  obtain⟨its,r,p,hz⟩:=I.list hs;cases (show v=.ref a from rv);obtain⟨o,e,r2⟩:=p.isList;refine⟨{cls:=.type "list_iterator",data:=.fields #[.ref a,.int 0 0]},fun prog w A E Q s' e' q=>?_,rfl,fun h' e'=>⟨_,e',rfl,rfl⟩⟩;subst e';exact GD ⟨o,k a o e,r2⟩ q
 |tup a=>
  obtain⟨its,r,p,hz⟩:=I.tuple hs;cases (show v=.ref a from rv);obtain⟨o,e,r2⟩:=p;refine⟨{cls:=.type "tuple_iterator",data:=.fields #[.ref a,.int 0 0]},fun prog w A E Q s' e' q=>?_,rfl,fun h' e'=>⟨_,e',rfl,rfl⟩⟩;subst e';exact wpAny_pyIter_tuple ⟨o,k a o e,r2⟩ q
 |str l=>
  obtain⟨t,rfl⟩:=(show ∃t,v=.str (sOf l) t from rv)
  cases ha:(sOf l).cps.all (· <128);·exact⟨{cls:=.type "str_iterator",data:=.fields #[.str (sOf l) t,.int 0 0]},fun prog w A E Q s' e' q=>by subst e';exact Kl ha q,rfl,fun h' e'=>⟨t,.inr ⟨_,e',rfl,rfl⟩⟩⟩
  ·exact⟨{cls:=.type "str_ascii_iterator",data:=.fields #[.str (sOf l) t,.int 0 0]},fun prog w A E Q s' e' q=>by subst e';exact JY ha q,rfl,fun h' e'=>⟨t,.inl ⟨_,e',rfl,rfl⟩⟩⟩
section
variable{P:CT}{w:D6}{A:Dr}{E:CD->CH->Prop}{s:CH}{z TI TO i1 i2:Addr}{fp1 fp2:List Addr}{n1 n2 k:Nat}{P1 P2:Nat->CD->Prop}{S1 S2:Nat->Heap->Prop}{a b:CD}
structure ZApart(z TI TO i1 i2:Addr)(fp1 fp2:List Addr):Prop where
 c1:TI≠z
 c2:TO≠z
 c3:i1≠z
 c4:i2≠z
 c5:TI≠TO
 c6:TI≠i1
 c7:TI≠i2
 c8:TO≠i1
 c9:TO≠i2
 d1:z∉fp1/\TO∉fp1/\i2∉fp1
 d2:z∉fp2/\TO∉fp2/\i1∉fp2
theorem aw{n:Nat}{it:Addr}{fp:List Addr}{Pt:Nat->CD->Prop}{S:Nat->Heap->Prop}(D:J4 P w A it fp n Pt S){j:Nat}{h h':Heap}{c:Addr}(st:S j h)(sb:D5 c h h')(hc:c∉fp):S j h':=
 D.frame _ _ _ st fun b hb o e=>(sb.2 b fun q=>hc<|q▸hb).trans e
theorem rf{Q:Option CD->CH->Prop}(D1:J4 P w A.in1 i1 fp1 n1 P1 S1)(D2:J4 P w A.in1 i2 fp2 n2 P2 S2)(Z:ZApart z TI TO i1 i2 fp1 fp2)(h1:k<n1)(h2:k<n2)(hz:FQ s.heap z TI TO .none)
  (hI:Gx s.heap TI (.ref i1) (.ref i2)) (hO:Gx s.heap TO a b) (t1:S1 k s.heap) (t2:S2 k s.heap)
  (q:∀x y h' tk T,P1 k x->P2 k y->T=s.heap.objs.size->FQ h' z TI TO (rawInt T)->Gx h' TO x y->S1 (k+1) h'->S2 (k+1) h'->Gx h' T x y->
   (∀c o,c≠z->c≠TO->c≠i1->c≠i2->s.heap.get? c=some o->h'.get? c=some o)->Q (some (.ref T)) {s with heap:=h',toks:=tk}):
  wpAny (model P w) A (pyNext<|.ref z) Q E s:=by
 have hT:s.TypeIs (.ref z) "zip":=⟨_,hz,rfl⟩
 unfold pyNext;refine Cy<|EF<|DD (name:=CI "__next__") hT En<|Dy En hT FW ?_<|FJ _;obtain⟨hp,gg,dd,tk0,os⟩:=s;show wpAny (model P w) _ (field (.ref z) 2>>=_) _ _ _;refine Cy<|Dl hz rfl (x:=.bool false) rfl ?_;show wpAny (model P w) _ (field (.ref z) 3>>=_) _ _ _;refine Cy<|Dl hz rfl (x:=.ref TI) rfl<|Cy<|DL hI rfl ?_;show wpAny (model P w) _ (Dz (.ref z)>>=_) _ _ _;refine Cy ?_;unfold Dz;refine Cy<|Dl hz rfl (x:=.none) rfl<|CG ?_;simp only[if_true];refine Cy (FV (Cy (Dl hz rfl (x:=.ref TO) rfl (Cy (DX hz (by simp) fun g1 y1 b1=>?_)))));replace y1:FQ g1 z TI TO .ellipsis:=y1;replace b1:D5 z hp g1:=b1;refine Cy ?_;simp only[GZ,Hq,Gn,GI];refine Cy<|Cy<|F8 ?_;show wpAny (model P w) _ (Di (.ref i1)>>=_) _ _ _;refine Cy<|D1.item k _ _ _ h1 (aw D1 t1 b1 Z.d1.1) fun x g2 tk2 px u1 b2=>CG ?_;replace b2:D5 i1 g1 g2:=b2;have O2:Gx g2 TO a b:=b2.extBut _ _ Z.c8<|b1.extBut _ _ Z.c2 hO;refine Cy<|DL O2 rfl<|Cy<|Hk O2 fun g3 O3 b3=>?_;replace O3:Gx g3 TO x b:=O3;replace b3:D5 TO g2 g3:=b3;refine Cy<|Ga<|CG<|Cy<|Cy<|F8 ?_;show wpAny (model P w) _ (Di (.ref i2)>>=_) _ _ _;refine Cy<|D2.item k _ _ _ h2 (aw D2 (aw D2 (aw D2 t2 b1 Z.d2.1) b2 Z.d2.2.2) b3 Z.d2.2.1) fun y g4 tk4 py u2 b4=>CG ?_;replace b4:D5 i2 g3 g4:=b4;have O4:Gx g4 TO x b:=b4.extBut _ _ Z.c9 O3;refine Cy<|DL O4 rfl<|Cy<|Hk O4 fun g5 O5 b5=>?_;replace O5:Gx g5 TO x y:=O5;replace b5:D5 TO g4 g5:=b5;refine Cy<|Ga<|CG<|CG<|Cy<|DL O5 rfl<|Cy<|Jt ?_;have sz:g5.objs.size=hp.objs.size:=by rw[b5.1,b4.1,b3.1,b2.1,b1.1]
 have y5:FQ g5 z TI TO .ellipsis:=b5.extBut _ _ Z.c2.symm<|b4.extBut _ _ Z.c4.symm<|b3.extBut _ _ Z.c2.symm<|b2.extBut _ _ Z.c3.symm y1;have k5:∀c o,c≠z->c≠TO->c≠i1->c≠i2->hp.get? c=some o->g5.get? c=some o:=fun c o e1 e2 e3 e4 e=>b5.extBut _ _ e2<|b4.extBut _ _ e4<|b3.extBut _ _ e2<|b2.extBut _ _ e3<|b1.extBut _ _ e1 e;have v1:S1 (k+1) g5:=aw D1 (aw D1 (aw D1 u1 b3 Z.d1.2.1) b4 Z.d1.2.2) b5 Z.d1.2.1;have v2:S2 (k+1) g5:=aw D2 u2 b5 Z.d2.2.1;have lz:z<g5.objs.size:=CP y5;show wpAny (model P w) _ (EC (.ref z) (.ref g5.objs.size)>>=_) _ _ _;refine Cy ?_;unfold EC;have y6:FQ (g5.push {cls:=.type "tuple",data:=.seq #[x,y]}) z TI TO .ellipsis:=CB _ y5;refine Cy (DX y6 (by simp) fun g7 y7 b7=>?_);replace y7:FQ g7 z TI TO (rawInt g5.objs.size):=y7;replace b7:D5 z (g5.push {cls:=.type "tuple",data:=.seq #[x,y]}) g7:=b7;refine DX y7 (by simp) fun g8 y8 b8=>?_;replace y8:FQ g8 z TI TO (rawInt g5.objs.size):=y8;replace b8:D5 z g7 g8:=b8;have up:∀c o,c≠z->g5.get? c=some o->g8.get? c=some o:=fun c o e1 e=>b8.extBut _ _ e1<|b7.extBut _ _ e1<|CB _ e;have T8:Gx g8 g5.objs.size x y:=b8.extBut _ _ (ER lz)<|b7.extBut _ _ (ER lz)<|CM _ rfl;refine CG ⟨_,rfl,CG<|q x y g8 _ g5.objs.size px py sz y8 (up _ _ Z.c2 O5) (D1.frame _ _ _ v1 fun b hb o e=>up b o (fun q=>Z.d1.1<|q▸hb) e) (D2.frame _ _ _ v2 fun b hb o e=>up b o (fun q=>Z.d2.1<|q▸hb) e) T8 fun c o e1 e2 e3 e4 e=>up c o e1<|k5 c o e1 e2 e3 e4 e⟩
theorem tj{Q:Option CD->CH->Prop}(hh:A.handled=none)(D1:J4 P w A.in1 i1 fp1 n1 P1 S1)(D2:J4 P w A.in1 i2 fp2 n2 P2 S2)(Z:ZApart z TI TO i1 i2 fp1 fp2)(hk:k=n1\/(k<n1/\k=n2))(hz:FQ s.heap z TI TO .none)
  (hI:Gx s.heap TI (.ref i1) (.ref i2)) (hO:Gx s.heap TO a b) (t1:S1 k s.heap) (t2:S2 k s.heap)
  (q:∀h' tk,(∀c o,c≠z->c≠TO->c≠i1->c≠i2->s.heap.get? c=some o->h'.get? c=some o)->Q none {s with heap:=h',toks:=tk}):
  wpAny (model P w) A (pyNext<|.ref z) Q E s:=by
 have hT:s.TypeIs (.ref z) "zip":=⟨_,hz,rfl⟩
 unfold pyNext;refine Cy<|EF<|DD (name:=CI "__next__") hT En<|Dy En hT FW ?_<|FJ _;obtain⟨hp,gg,dd,tk0,os⟩:=s;show wpAny (model P w) _ (field (.ref z) 2>>=_) _ _ _;refine Cy<|Dl hz rfl (x:=.bool false) rfl ?_;show wpAny (model P w) _ (field (.ref z) 3>>=_) _ _ _;refine Cy<|Dl hz rfl (x:=.ref TI) rfl<|Cy<|DL hI rfl ?_;show wpAny (model P w) _ (Dz (.ref z)>>=_) _ _ _;refine Cy ?_;unfold Dz;refine Cy<|Dl hz rfl (x:=.none) rfl<|CG ?_;simp only[if_true];refine Cy (FV (Cy (Dl hz rfl (x:=.ref TO) rfl (Cy (DX hz (by simp) fun g1 y1 b1=>?_)))));replace y1:FQ g1 z TI TO .ellipsis:=y1;replace b1:D5 z hp g1:=b1;refine Cy ?_;simp only[GZ,Hq,Gn,GI];refine Cy<|Cy<|F8 ?_;show wpAny (model P w) _ (Di (.ref i1)>>=_) _ _ _;rcases hk with hk|⟨hk1,hk2⟩
 ·subst hk;refine Cy<|D1.done _ _ _ (aw D1 t1 b1 Z.d1.1) fun g2 e b2 he=>?_;obtain⟨oe,hoe,hce⟩:=he;replace b2:F9 i1 g1 g2:=b2;have y2:FQ g2 z TI TO .ellipsis:=b2 _ _ Z.c3.symm y1;have ez:e≠z:=fun x=>by subst x;rw[y2]at hoe;cases hoe;simp at hce
  refine DX y2 (by simp) fun g3 _ b3=>?_;exact Cy<|Ew (T:="StopIteration") (b:=true) ⟨oe,b3.extBut _ _ ez hoe,hce⟩ Fb<|CG<|q g3 _ fun c o e1 _ e3 _ x=>b3.extBut _ _ e1<|b2 _ _ e3<|b1.extBut _ _ e1 x
 ·subst hk2;refine Cy<|D1.item k _ _ _ hk1 (aw D1 t1 b1 Z.d1.1) fun x g2 tk2 px u1 b2=>CG ?_;replace b2:D5 i1 g1 g2:=b2;have O2:Gx g2 TO a b:=b2.extBut _ _ Z.c8<|b1.extBut _ _ Z.c2 hO;refine Cy<|DL O2 rfl<|Cy<|Hk O2 fun g3 O3 b3=>?_;replace b3:D5 TO g2 g3:=b3;refine Cy<|Ga<|CG<|Cy<|Cy<|F8 ?_;show wpAny (model P w) _ (Di (.ref i2)>>=_) _ _ _;refine Cy<|D2.done _ _ _ (aw D2 (aw D2 (aw D2 t2 b1 Z.d2.1) b2 Z.d2.2.2) b3 Z.d2.2.1) fun g4 e b4 he=>?_;obtain⟨oe,hoe,hce⟩:=he;replace b4:F9 i2 g3 g4:=b4;have y4:FQ g4 z TI TO .ellipsis:=b4 _ _ Z.c4.symm<|b3.extBut _ _ Z.c2.symm<|b2.extBut _ _ Z.c3.symm y1;have ez:e≠z:=fun x=>by subst x;rw[y4]at hoe;cases hoe;simp at hce
  refine DX y4 (by simp) fun g5 _ b5=>?_;exact Cy<|Ew (T:="StopIteration") (b:=true) ⟨oe,b5.extBut _ _ ez hoe,hce⟩ Fb<|CG<|q g5 _ fun c o e1 e2 e3 e4 x=>b5.extBut _ _ e1<|b4 _ _ e4<|b3.extBut _ _ e2<|b2.extBut _ _ e3<|b1.extBut _ _ e1 x
end
def A7(K:CF)(c1 c2:Src):It:=
  ⟨fun i H=>∃xs ys x y,c1.has K H xs/\c2.has K H ys/\xs[i]? =some x/\ys[i]? =some y,
   fun i H v H'=>∃p x y,H p=none/\v=.ref p/\(∀xs,c1.has K H xs->xs[i]? =some x)/\(∀ys,c2.has K H ys->ys[i]? =some y)/\H'=cI H p (.tup [x,y]),
   fun i H=>∃xs ys,c1.has K H xs/\c2.has K H ys/\(i=xs.length\/(i<xs.length/\i=ys.length))⟩
theorem Src.inj{X:Cx}{pins:List (Addr×Obj)}{σ:St}{H:Hp}{s:CH}{c:Src}{xs ys:List V}(I:Inv X pins σ H s)(h1:c.has X.K H xs)(h2:c.has X.K H ys):xs=ys:=by
 cases c with
 |lst a=>exact I.list_inj h1 h2
 |tup a=>exact I.tuple_inj h1 h2
 |str l=>exact Eq.trans h1<|Eq.symm h2
theorem Src.at_keep{c:Src}{it:Addr}{i:Nat}{h h':Heap}(st:c.at it i h)(k:∀o,h.get? it=some o->h'.get? it=some o):c.at it i h':=by
 cases c with
 |lst a=>obtain⟨o,e,r⟩:=st;exact⟨o,k o e,r⟩
 |tup a=>obtain⟨o,e,r⟩:=st;exact⟨o,k o e,r⟩
 |str l=>
  obtain⟨t,st⟩:=st;rcases st with⟨o,e,r⟩|⟨o,e,r⟩
  ·exact⟨t,.inl ⟨o,k o e,r⟩⟩
  ·exact⟨t,.inr ⟨o,k o e,r⟩⟩
theorem Src.at_obj{c:Src}{it:Addr}{i:Nat}{h:Heap}(st:c.at it i h):∃o,h.get? it=some o/\∃vs,o.data=.fields vs:=by
 cases c with
 |lst a=>obtain⟨o,e,_,r⟩:=st;exact⟨o,e,_,r⟩
 |tup a=>obtain⟨o,e,_,r⟩:=st;exact⟨o,e,_,r⟩
 |str l=>
  obtain⟨t,st⟩:=st;rcases st with⟨o,e,_,r⟩|⟨o,e,_,r⟩
  ·exact⟨o,e,_,r⟩
  ·exact⟨o,e,_,r⟩
def BR(c1 c2:Src)(z TI TO i1 i2:Addr)(i:Nat)(h:Heap):Prop:=FQ h z TI TO .none/\Gx h TI (.ref i1) (.ref i2)/\(∃a b,Gx h TO a b)/\c1.at i1 i h/\c2.at i2 i h
structure ZIds(z TI TO i1 i2:Addr):Prop where
 c1:TI≠z
 c2:TO≠z
 c3:i1≠z
 c4:i2≠z
 c5:TI≠TO
 c6:TI≠i1
 c7:TI≠i2
 c8:TO≠i1
 c9:TO≠i2
 c10:i1≠i2
theorem tm{X:Cx}{pins:List (Addr×Obj)}{σ:St}{H:Hp}{s:CH}{z TI TO i1 i2:Addr}{fp1 fp2:List Addr}(I:Inv X pins σ H s)(Z:ZIds z TI TO i1 i2)(hf:∀b∈[z,TI,TO,i1,i2],FpOk X pins H b)
  (g1:∀b∈fp1,b=i1\/H b≠none\/∃o,X.base.get? b=some o) (g2:∀b∈fp2,b=i2\/H b≠none\/∃o,X.base.get? b=some o):ZApart z TI TO i1 i2 fp1 fp2:=by
 have no:∀b∈[z,TI,TO,i1,i2],¬(H b≠none\/∃o,X.base.get? b=some o):=fun b hb q=>by
  rcases q with q|⟨o,q⟩
  ·exact q (hf b hb).1
  ·rcases (hf b hb).2.2.2.1 with y | y;·exact I.ok.noex b o q y
   ·exact absurd (CN (CN (CP q) I.ok.bsz) y)<|DH _
 refine⟨Z.c1,Z.c2,Z.c3,Z.c4,Z.c5,Z.c6,Z.c7,Z.c8,Z.c9,⟨fun m=>?_,fun m=>?_,fun m=>?_⟩,⟨fun m=>?_,fun m=>?_,fun m=>?_⟩⟩;·exact(g1 _ m).elim (fun e=>Z.c3 e.symm) (no z (by simp))
 ·exact(g1 _ m).elim (fun e=>Z.c8 e) (no TO (by simp))
 ·exact(g1 _ m).elim (fun e=>Z.c10 e.symm) (no i2 (by simp))
 ·exact(g2 _ m).elim (fun e=>Z.c4 e.symm) (no z (by simp))
 ·exact(g2 _ m).elim (fun e=>Z.c9 e) (no TO (by simp))
 ·exact(g2 _ m).elim (fun e=>Z.c10 e) (no i1 (by simp))
theorem tq{P:CT}{w:D6}{K:CF}{elts:List Expr}{kk:Nat}{tp:Pos}(c1 c2:Src)(z TI TO i1 i2:Addr)(Z:ZIds z TI TO i1 i2):
  Turn P w K (.Tuple elts kk tp) (A7 K c1 c2) [z,TI,TO,i1,i2] z (BR c1 c2 z TI TO i1 i2) where
 mem:=by simp
 obj:=fun i h st b hb=>by
  obtain⟨hz,hI,⟨a,b',hO⟩,t1,t2⟩:=st;obtain⟨o1,e1,v1,d1⟩:=Src.at_obj t1;obtain⟨o2,e2,v2,d2⟩:=Src.at_obj t2;simp only[CW,DE,or_false]at hb;rcases hb with rfl|rfl|rfl|rfl|rfl;·exact⟨_,hz,fun v q=>by cases (show Hi _=FG v from q)⟩
  ·exact⟨_,hI,fun v q=>by cases (show Iu _ _=FG v from q)⟩
  ·exact⟨_,hO,fun v q=>by cases (show Iu _ _=FG v from q)⟩
  ·exact⟨_,e1,fun v q=>by rw[d1]at q;cases q⟩
  ·exact⟨_,e2,fun v q=>by rw[d2]at q;cases q⟩
 keep:=fun i h h' st k=>by
  obtain⟨hz,hI,⟨a,b',hO⟩,t1,t2⟩:=st;exact⟨k z (by simp) _ hz,k TI (by simp) _ hI,⟨a,b',k TO (by simp) _ hO⟩,Src.at_keep t1 (k i1 (by simp)),Src.at_keep t2 (k i2 (by simp))⟩
 item:=by
  intro X hP hw hK hc i pins s σ H E I hf st hg;subst hP hw hK;obtain⟨xs,ys,x,y,hx,hy,ex,ey⟩:=hg;obtain⟨hz,hI,⟨a,b',hO⟩,t1,t2⟩:=st;have hh:X.A.in1.handled=none:=I.ok.hd hc;obtain⟨fp1,P1,S1,D1,u1,r1,a1,_,g1⟩:=Src.draws (A:=X.A.in1) hh I hx t1 (hf i1 (by simp)).1;obtain⟨fp2,P2,S2,D2,u2,r2,a2,_,g2⟩:=Src.draws (A:=X.A.in1) hh I hy t2 (hf i2 (by simp)).1;have ZA:=tm I Z hf g1 g2;refine rf D1 D2 ZA (CL.mp ex).1 (CL.mp ey).1 hz hI hO u1 u2 fun vx vy h' tk T px py hT hz' hO' w1 w2 hTp kp=>?_;obtain⟨x',ex',rx⟩:=r1 i vx px;obtain⟨y',ey',ry⟩:=r2 i vy py;rw[ex]at ex';cases ex';rw[ey]at ey';cases ey';have nT:H T=none:=by rw[hT];exact I.hok.fresh<|CU _
  refine⟨_,rfl,HR hz' fun h2 hz2 sb=>?_⟩;have lt:∀{c o},s.heap.get? c=some o->c≠T:=fun e=>by rw[hT];exact D0<|CP e
  have up:∀c o,c≠z->h'.get? c=some o->h2.get? c=some o:=fun c o hc e=>(sb.2 c hc).trans e;have kp2:∀b o,b∉[z,TO,i1,i2]->s.heap.get? b=some o->h2.get? b=some o:=fun b o hb e=>by
   simp only[CW,DE,or_false,not_or]at hb;exact up b o hb.1<|kp b o hb.1 hb.2.1 hb.2.2.1 hb.2.2.2 e
  have ch:∀b∈[z,TO,i1,i2],b∈[z,TI,TO,i1,i2]:=fun b hb=>by
   simp only[CW,DE,or_false]at hb ⊢;rcases hb with h|h|h|h<;>simp[h]
  have gm:∀b u,H b=some u->b∉[z,TO,i1,i2]/\b≠T:=fun b u e=>⟨fun hb=>(by rw[(hf b<|ch b hb).1]at e;cases e),fun q=>(by rw[q,nT]at e;cases e)⟩
  have I2:Inv X pins σ (cI H T<|.tup [x,y]) {s with heap:=h2,gens:=s.gens,drawn:=s.drawn,toks:=tk}:=by
   refine I.step (g':=s.gens) (d':=s.drawn) (t':=tk) (ch:=[z,TO,i1,i2]) (fun b hb=>⟨(hf b<|ch b hb).2.2.2.1,(hf b<|ch b hb).2.1,(hf b<|ch b hb).2.2.2.2.1,(hf b<|ch b hb).2.2.2.2.2⟩) (fun b o _ _ hb e _=>kp2 b o hb e) (fun b o _ _ hb e _=>⟨o.slots,kp2 b o hb e⟩)
    (fun b o hb e n=>by rw[ax<|lt e];exact n) (fun b o hb e=>⟨o,kp2 b o hb e⟩) (fun b xs e=>by rw[ax (gm b _ e).2];exact e) (fun b o u e=>by rw[ax (gm b _ e).2];exact e) (fun b ps e=>⟨#[],by rw[ax (gm b _ e).2,e];simp⟩) (fun m hm=>?_) (fun b u e=>?_) I.bare
   ·obtain⟨o,es,ep,ho,r⟩:=hm;exact⟨o,es,ep,kp2 _ o (fun hb=>(hf _<|ch _ hb).2.1 rfl) ho,r⟩
   ·by_cases hb:b=T
    ·subst hb;rw[aG]at e;cases e;refine⟨(by show 2<=sizeLine;rw[E6];decide),[vx,vy],.cons rx<|.cons ry .nil,⟨_,up _ _ ?_ hTp,⟨rfl,rfl⟩,_,rfl⟩⟩;exact fun q=>lt hz q.symm
    ·rw[ax hb]at e;refine(I.hok b u e).stay (fun c v hc q=>kp2 c v ?_ q) (fun c q=>by rw[ax (gm c _ q).2];exact q) fun c xs q=>by rw[ax (gm c _ q).2];exact q
     rcases hc with q|q;·rw[q];exact(gm b u e).1
     ·exact(gm c _ q).1
  refine⟨.ref T,_,I2,rfl,⟨T,x,y,nT,rfl,fun xs' h=>by rw[Src.inj I h hx];exact ex,fun ys' h=>by rw[Src.inj I h hy];exact ey,rfl⟩,⟨hz2,up _ _ Z.c1<|kp _ _ Z.c1 Z.c5 Z.c6 Z.c7 hI,⟨_,_,up _ _ Z.c2 hO'⟩,Src.at_keep (a1 _ _ w1) fun o e=>up _ o Z.c3 e,Src.at_keep (a2 _ _ w2) fun o e=>up _ o Z.c4 e⟩,fun b hb=>?_⟩;have hbT:b≠T:=by
   obtain⟨o,e⟩:∃o,s.heap.get? b=some o:=by
    obtain⟨o1,e1,_⟩:=Src.at_obj t1;obtain⟨o2,e2,_⟩:=Src.at_obj t2;simp only[CW,DE,or_false]at hb;rcases hb with rfl|rfl|rfl|rfl|rfl;·exact⟨_,hz⟩
    ·exact⟨_,hI⟩
    ·exact⟨_,hO⟩
    ·exact⟨_,e1⟩
    ·exact⟨_,e2⟩
   exact lt e
  rw[ax hbT];exact(hf b hb).1
 done:=by
  intro X hP hw hK hc i pins s σ H E I hf st hg;subst hP hw hK;obtain⟨xs,ys,hx,hy,hend⟩:=hg;obtain⟨hz,hI,⟨a,b',hO⟩,t1,t2⟩:=st;have hh:X.A.in1.handled=none:=I.ok.hd hc;obtain⟨fp1,P1,S1,D1,u1,r1,a1,_,g1⟩:=Src.draws (A:=X.A.in1) hh I hx t1 (hf i1 (by simp)).1;obtain⟨fp2,P2,S2,D2,u2,r2,a2,_,g2⟩:=Src.draws (A:=X.A.in1) hh I hy t2 (hf i2 (by simp)).1;have ZA:=tm I Z hf g1 g2;have ch:∀b∈[z,TO,i1,i2],b∈[z,TI,TO,i1,i2]:=fun b hb=>by
   simp only[CW,DE,or_false]at hb ⊢;rcases hb with h|h|h|h<;>simp[h]
  refine tj hh D1 D2 ZA hend hz hI hO u1 u2 fun h2 tk kp=>⟨rfl,?_⟩
  have kp2:∀b o,b∉[z,TO,i1,i2]->s.heap.get? b=some o->h2.get? b=some o:=fun b o hb e=>by
   simp only[CW,DE,or_false,not_or]at hb;exact kp b o hb.1 hb.2.1 hb.2.2.1 hb.2.2.2 e
  refine I.step (g':=s.gens) (d':=s.drawn) (t':=tk) (ch:=[z,TO,i1,i2]) (fun b hb=>⟨(hf b<|ch b hb).2.2.2.1,(hf b<|ch b hb).2.1,(hf b<|ch b hb).2.2.2.2.1,(hf b<|ch b hb).2.2.2.2.2⟩) (fun b o _ _ hb e _=>kp2 b o hb e) (fun b o _ _ hb e _=>⟨o.slots,kp2 b o hb e⟩)
   (fun b o hb e n=>n) (fun b o hb e=>⟨o,kp2 b o hb e⟩) (fun b xs e=>e) (fun b o u e=>e) (fun b ps e=>⟨#[],by rw[e];simp⟩) (fun m hm=>?_) (fun b u e=>?_) I.bare
  ·obtain⟨o,es,ep,ho,r⟩:=hm;exact⟨o,es,ep,kp2 _ o (fun hb=>(hf _<|ch _ hb).2.1 rfl) ho,r⟩
  ·have gm:∀b u,H b=some u->b∉[z,TO,i1,i2]:=fun b u e hb=>by rw[(hf b<|ch b hb).1]at e;cases e
   refine(I.hok b u e).stay (fun c v hc q=>kp2 c v ?_ q) (fun c q=>q) fun c xs q=>q;rcases hc with q|q
   ·rw[q];exact gm b u e
   ·exact gm c _ q
 self:=fun _ _ _ _ _ st h=>H9 st.1 h
theorem iR(n a b:Nat)(h:a≠b): @Ne Nat (n+a) (n+b):=fun e=>h<|Nat.add_left_cancel e
def yw(K:CF)(t:TA):TI:=fun σ H R=>t σ H fun vs H1=>∃c1 c2 xs ys,vs=[c1.val,c2.val]/\c1.has K H1 xs/\c2.has K H1 ys/\R (A7 K c1 c2) H1
theorem yx{X:Cx}{a b:Expr}{ta:TA}{p pos tp:Pos}{elts:List Expr}{kk:Nat}(hg:Gl X "zip")(hm:X.mg "zip"=none)(ha:PA X [a,b] ta)
  (hs:starEach [a,b] X.env=[(false,eval a X.env),(false,eval b X.env)]:=by rfl) (hs2:starEach [b] X.env=[(false,eval b X.env)]:=by rfl):PI X (.Tuple elts kk tp) (.Call (.Name "zip" p) [a,b] [] pos) (yw X.K ta):=by
 intro pins s σ H R I h;refine Mt (fh I hg hm boot_zip (E7 (bF (ha pos pins s σ H _ I h) fun us s1⟨vs,H1,I1,r1,q1⟩=>?_) (by rw[hs,hs2]) (by rw[hs2];rfl)));obtain⟨c1,c2,xs,ys,e,h1,h2,q⟩:=q1;subst e;obtain⟨v1,v2,rfl,ra,rb⟩:=sP r1;obtain⟨o1,i1,f1,n1⟩:=Src.iter I1 h1 ra fun _ _ e=>e;obtain⟨o2,i2,f2,n2⟩:=Src.iter (h:=s1.heap.push o1) I1 h2 rb fun _ _ e=>CB _ e;have z1:(s1.heap.push o1).objs.size=s1.heap.objs.size+1:=DJ ..;rw[z1]at n2;refine rd i1 i2 f1 f2 fun h' hz hI hO e1 e2 kp=>?_;refine H9 hz ?_;have zi:∀n:Nat,ZIds (n+4) (n+2) (n+3) n (n+1):=fun n=>⟨(iR n 2 4 (by decide)),(iR n 3 4 (by decide)),(iR n 0 4 (by decide)),(iR n 1 4 (by decide)),(iR n 2 3 (by decide)),(iR n 2 0 (by decide)),(iR n 2 1 (by decide)),(iR n 3 0 (by decide)),(iR n 3 1 (by decide)),(iR n 0 1 (by decide))⟩
 refine⟨s1.heap.objs.size+4,[s1.heap.objs.size+4,s1.heap.objs.size+2,s1.heap.objs.size+3,s1.heap.objs.size,s1.heap.objs.size+1],_,_,H1,rfl,I1.kept (t':=s1.toks) kp,tq c1 c2 _ _ _ _ _<|zi s1.heap.objs.size,⟨hz,hI,⟨_,_,hO⟩,n1 h' e1,n2 h' e2⟩,fun b hb=>?_,q⟩;have hb':s1.heap.objs.size<=b:=by
  simp only[CW,DE,or_false]at hb;rcases hb with z|z|z|z|z<;>rw[z]
  ·exact Ex _ 4
  ·exact Ex _ 2
  ·exact Ex _ 3
  ·exact CU _
  ·exact Ex _ 1
 exact I1.fpOk hb'<|I1.hok.fresh hb'
theorem wc{K:CF}{c1 c2:Src}{xs ys:List V}{g:TG}{tb:TS}{D:Ends}{σ:St}{H:Hp}(Pv:Nat->St->Hp->Prop)(h0:Pv 0 σ H)(hl:∀i σ H,Pv i σ H->c1.has K H xs/\c2.has K H ys)(hn:xs.length=ys.length)
  (hs:∀i x y p σ H,xs[i]? =some x->ys[i]? =some y->H p=none->Pv i σ H->g (.ref p) σ (cI H p<|.tup [x,y]) fun σ2 H2=>tb {D with nx:=Pv<|i+1,ct:=Pv<|i+1,bk:=D.nx} σ2 H2) (hd:∀σ H,Pv xs.length σ H->D.nx σ H):
  ∃W:Nat->Nat->St->Hp->Prop,(∃m,W 0 m σ H)/\ ∀i m σ H,W i m σ H->
   ((A7 K c1 c2).stop i H/\D.nx σ H)\/((A7 K c1 c2).go i H/\∃N:St->Hp->Prop,(∀σ' H',N σ' H'->∃m',m'<m/\W (i+1) m' σ' H')/\∀x H',(A7 K c1 c2).yld i H x H'->g x σ H' fun σ2 H2=>tb {D with nx:=N,ct:=N,bk:=D.nx} σ2 H2):=by
 refine⟨fun i m σ H=>m=xs.length-i/\i<=xs.length/\Pv i σ H,⟨xs.length,by simp,KS _,h0⟩,?_⟩;rintro i m σ H ⟨rfl,hi,p⟩;obtain⟨q1,q2⟩:=hl i σ H p;by_cases hlt:i<xs.length
 ·refine .inr ⟨⟨xs,ys,xs[i],ys[i],q1,q2,by simp[hlt],by simp[<-hn,hlt]⟩,Pv<|i+1,fun σ' H' p'=>⟨xs.length- (i+1),by omega,rfl,hlt,p'⟩,fun v H' ⟨a,x,y,na,ev,ex,ey,eh⟩=>?_⟩;subst ev eh;exact hs i x y a σ H (ex xs q1) (ey ys q2) na p
 ·have e:i=xs.length:=by omega
  subst e;exact .inl ⟨⟨xs,ys,q1,q2,.inl rfl⟩,hd σ H p⟩
structure Cal(P:CT)(w:D6)(K:CF)(mg:Str->Option CD)(base:Heap)(x:Str)(ps:List Str)(k:Nat)(sp:Sp):Prop where
 ex:∃(f:Addr)(fd:De),FnOk P w K mg base CX0 k f fd ps sp/\mg x=some (.ref f)/\EE K (.ref f)=true/\Binds K fd ps []
theorem tu{X:Cx}{x:Str}{ps:List Str}{k:Nat}{sp:Sp}{p pos:Pos}{e:Expr}{es:List Expr}{t:TA}(C:Cal X.prog X.w X.K X.mg X.base x ps k sp)(hr:Room k X.A)(hg:Gl X x)(ha:PA X (e::es) t)
  (hdb:(x==("__debug__" :Str))=false:=by decide) (he:starEach (e::es) X.env=(false,eval e X.env)::starEach es X.env:=by rfl) (hpl:(backTo pos<|starEach es X.env).any (·.1)=false:=by rfl):
  PE X (.Call (.Name x p) (e::es) [] pos) (aN sp [] E0 t):=by
 obtain⟨f,fd,F,hm,hk,hb⟩:=C.ex;exact pO F hr hg hm hk hb .nil A2 ha hdb he hpl
theorem gY{X:Cx}{scope:Fm}{N:List Str}{cap:List (Option Nat)}(kind:scope.kind=.function)(nd:N.Nodup)(len:cap.length=N.length)(uniq:(scope.names.map (·.1)).Nodup)
  (fr:(scope.names.all fun x=>x.2 != .free||(X.env.kindOf x.1==some .cell||X.env.kindOf x.1==some .free))=true)
  (cp:((N.zip cap).all fun p=>match p.2 with|none=>true|some j=>X.N[j]? ==some p.1&&scope.names.contains (p.1,Ek))=true):CompScope X scope N cap:=by
 refine⟨kind,nd,len,uniq,fun x hx hk=>?_,fun k x j h1 h2=>?_⟩
 ·have:=Gf.mp fr x hx;rw[hk]at this;simpa using this
 ·have hm:(x,some j)∈N.zip cap:=by
   rw[GR];exact⟨k,by rw[Ft];exact⟨h1,h2⟩⟩
  have:=Gf.mp cp _ hm;simpa using this
def flat:V->Bool
 | .non=>true
 | .bl _=>true
 | .int _=>true
 | .str _=>true
 |_=>false
theorem cN{H:Hp}{p:Addr}{o:HO}(h:H p=none):Same H (cI H p o):=fun b u e=>by rw[ax<|cg e h];exact e
theorem du(x:String)(l:List Nat)(h:(CI x).cps.toList=l):CI x=sOf l:=by rw[sU<|CI x,h]
section
variable{X:Cx}{K:CF}{w:D6}
theorem aY(h:X.K=K):zD X (cy K):=h▸yq
theorem bD(h:X.K=K):zD X (cn K):=h▸w6
theorem bJ(h:X.K=K):dC X (.builtin "len") (fun xs H Q=>∃x n,xs=[x]/\oA K x H n/\Q (.int n) H):=h▸sQ
theorem bp(h:X.K=K):dC X (.builtin "isinstance") (fun xs H Q=>∃x T t b,xs=[x,.ty T]/\TyOf K H x t/\DR K t (.type T)=some b/\Q (.bl b) H):=h▸mW
theorem tx(h:X.K=K):A0 X "str.join" (fun x xs H Q=>∃(p:Addr)(ys:List (List Nat)),x=.str (sOf [])/\xs=[.ref p]/\SqL K H p (ys.map fun y=>GW<|sOf y)/\ys.flatten.length<=100000/\Q (.str<|sOf ys.flatten) H):=h▸wb
theorem tD(h:X.K=K):AN X (cz K):=h▸w8
theorem lg(h:X.K=K)(hw:X.w=w){o i:Expr}{pos:Pos}{td ty:TE}(ho:PE X o td)(hi:PE X i ty)(hs:sS i):PE X (.Subscript o i pos) (aR K w td ty):=h▸hw▸sV ho hi hs
theorem bM(h:X.K=K){pos:Pos}{es:List Expr}{k:Nat}{t:vW}{n:Nat}(hc:X.calm=true)(hg:zC X es t)(hn:(assignEach es X.env).length=n:=by rfl)(hst:(assignEach es X.env).findIdx? (·.1)=none:=by rfl):PG X (.Tuple es k pos) (cb K n t):=h▸yl hc hg hn hst
theorem bV(h:X.K=K){tg l:Expr}{tl:TE}(hl:PE X l tl):PI X tg l (pJ K tl):=h▸vY hl
theorem gZ(h:X.K=K){a b:Expr}{ta:TA}{p pos tp:Pos}{elts:List Expr}{kk:Nat}(hg:Gl X "zip")(hm:X.mg "zip"=none)(ha:PA X [a,b] ta)
  (hs:starEach [a,b] X.env=[(false,eval a X.env),(false,eval b X.env)]:=by rfl) (hs2:starEach [b] X.env=[(false,eval b X.env)]:=by rfl):PI X (.Tuple elts kk tp) (.Call (.Name "zip" p) [a,b] [] pos) (yw K ta):=h▸yx hg hm ha hs hs2
theorem oH(h:X.K=K){o e:Expr}{es:List Expr}{to:TE}{t:TA}{name:Str}{apos cpos:Pos}{T id:String}{r:V->List V->Hp->VK->Prop}(pa:PlainAttrs T)(slot:Slot T name id)(hty:typeOf (.builtin id)=pure (.type "method_descriptor"))(hm:A0 X id r)(ho:PE X o to)(ha:PA X (e::es) t)
  (hbase:attributeBase o name X.env (eval o X.env)=eval o X.env:=by rfl)
  (hfew:((backTo cpos<|starEach (e::es) X.env).all (fun x=> !x.1)&&(backToKw cpos<|keywordEach [] X.env).all (fun x=>x.1.isSome)&&decide ((e::es).length+([]:List IL).length+(if([]:List IL).isEmpty then 0 else 1)<30))=true:=by rfl)
  (hline:(apos.endLine==cpos.line)=true:=by rfl) (hs:starEach (e::es) X.env=(false,eval e X.env)::starEach es X.env:=by rfl) (hplain:(backTo cpos<|starEach es X.env).any (·.1)=false:=by rfl):
  PE X (.Call (.Attribute o name apos) (e::es) [] cpos) (eO K T r to t):=h▸A1 pa slot hty hm ho ha hbase hfew hline hs hplain
end
def BJ(K:CF)(a:Addr):It:=
  ⟨fun i H=>∃xs x,SqL K H a xs/\xs[i]? =some x,
   fun i H v H'=>∃p x,H p=none/\v=.ref p/\(∀xs,SqL K H a xs->xs[i]? =some x)/\H'=cI H p (.tup [.int i,x]),
   fun i H=>∃xs,SqL K H a xs/\xs.length=i⟩
def BS(a e it:Addr)(i:Nat)(h:Heap):Prop:=(∃old,IsEnum h e it i old)/\h.IsListIter it a i
theorem rg{P:CT}{w:D6}{K:CF}{elts:List Expr}{kk:Nat}{tp:Pos}(a e it:Addr)(ne:e≠it):Turn P w K (.Tuple elts kk tp) (BJ K a) [e,it] e (BS a e it) where
 mem:=by simp
 obj:=fun i h st b hb=>by
  obtain⟨⟨old,he⟩,t1⟩:=st;obtain⟨o1,e1,v1,d1⟩:=Src.at_obj (c:=.lst a) t1;simp only[CW,DE,or_false]at hb;rcases hb with rfl|rfl;·exact⟨_,he,fun v q=>by cases (show Hi _=FG v from q)⟩
  ·exact⟨_,e1,fun v q=>by rw[d1]at q;cases q⟩
 keep:=fun i h h' st k=>by
  obtain⟨⟨old,he⟩,t1⟩:=st;exact⟨⟨old,k e (by simp) _ he⟩,Src.at_keep (c:=.lst a) t1 (k it (by simp))⟩
 item:=by
  intro X hP hw hK hc i pins s σ H E I hf st hg;subst hP hw hK;obtain⟨xs,x,hx,ex⟩:=hg;obtain⟨⟨old,he⟩,t1⟩:=st;have hh:X.A.in1.handled=none:=I.ok.hd hc;obtain⟨fp1,P1,S1,D1,u1,r1,a1,_,g1⟩:=Src.draws (A:=X.A.in1) (c:=.lst a) hh I hx t1 (hf it (by simp)).1;have nof:e∉fp1:=fun m=>by
   rcases g1 e m with q|q|⟨o,q⟩
   ·exact ne q
   ·exact q (hf e (by simp)).1
   ·rcases (hf e (by simp)).2.2.2.1 with y | y;·exact I.ok.noex e o q y
    ·exact absurd (CN (CN (CP q) I.ok.bsz) y)<|DH _
  refine wpAny_pyNext_enum_itemD D1 he u1 (CL.mp ex).1 ne nof fun vx h' tk px ho w1 hTp hsz kp=>?_;obtain⟨x',ex',rx⟩:=r1 i vx px;rw[ex]at ex';cases ex';have nT:H s.heap.objs.size=none:=I.hok.fresh<|CU _;refine⟨_,rfl,wpAny_letOwnedTupleGo_enum ho fun h2 he2 sb=>?_⟩;have lt:∀{c o},s.heap.get? c=some o->c≠s.heap.objs.size:=fun e=>D0<|CP e;have kp2:∀b o,b∉[e,it]->s.heap.get? b=some o->h2.get? b=some o:=fun b o hb q=>by
   simp only[CW,DE,or_false,not_or]at hb;exact(sb.2 b hb.1).trans (kp b o hb.1 hb.2 q)
  have gm:∀b u,H b=some u->b∉[e,it]/\b≠s.heap.objs.size:=fun b u q=>⟨fun hb=>(by rw[(hf b hb).1]at q;cases q),fun z=>(by rw[z,nT]at q;cases q)⟩
  have I2:Inv X pins σ (cI H s.heap.objs.size<|.tup [.int i,x]) {s with heap:=h2,gens:=s.gens,drawn:=s.drawn,toks:=tk+1}:=by
   refine I.step (g':=s.gens) (d':=s.drawn) (t':=tk+1) (ch:=[e,it]) (fun b hb=>⟨(hf b hb).2.2.2.1,(hf b hb).2.1,(hf b hb).2.2.2.2.1,(hf b hb).2.2.2.2.2⟩) (fun b o _ _ hb q _=>kp2 b o hb q) (fun b o _ _ hb q _=>⟨o.slots,kp2 b o hb q⟩)
    (fun b o hb q n=>by rw[ax<|lt q];exact n) (fun b o hb q=>⟨o,kp2 b o hb q⟩) (fun b xs q=>by rw[ax (gm b _ q).2];exact q) (fun b o u q=>by rw[ax (gm b _ q).2];exact q) (fun b ps q=>⟨#[],by rw[ax (gm b _ q).2,q];simp⟩) (fun m hm=>?_) (fun b u q=>?_) I.bare
   ·obtain⟨o,es,ep,ho',r⟩:=hm;exact⟨o,es,ep,kp2 _ o (fun hb=>(hf _ hb).2.1 rfl) ho',r⟩
   ·by_cases hb:b=s.heap.objs.size
    ·subst hb;rw[aG]at q;cases q;refine⟨(by show 2<=sizeLine;rw[E6];decide),[.int i tk,vx],.cons ⟨_,rfl⟩<|.cons rx .nil,⟨_,(sb.2 _ ?_).trans hTp,⟨rfl,rfl⟩,_,rfl⟩⟩;exact fun z=>lt he z.symm
    ·rw[ax hb]at q;refine(I.hok b u q).stay (fun c v hc z=>kp2 c v ?_ z) (fun c z=>by rw[ax (gm c _ z).2];exact z) fun c xs z=>by rw[ax (gm c _ z).2];exact z
     rcases hc with z|z;·rw[z];exact(gm b u q).1
     ·exact(gm c _ z).1
  refine⟨.ref s.heap.objs.size,_,I2,rfl,⟨_,x,nT,rfl,fun xs' h=>by rw[I.list_inj h hx];exact ex,rfl⟩,⟨⟨_,by simpa using he2⟩,Src.at_keep (c:=.lst a) (a1 _ _ w1) fun o q=>(sb.2 _<|F3 ne).trans q⟩,fun b hb=>?_⟩;have hbT:b≠s.heap.objs.size:=by
   obtain⟨o1,e1,_⟩:=Src.at_obj (c:=.lst a) t1;simp only[CW,DE,or_false]at hb;rcases hb with rfl|rfl;·exact lt he
   ·exact lt e1
  rw[ax hbT];exact(hf b hb).1
 done:=by
  intro X hP hw hK hc i pins s σ H E I hf st hg;subst hP hw hK;obtain⟨xs,hx,hl⟩:=hg;obtain⟨⟨old,he⟩,t1⟩:=st;have hh:X.A.in1.handled=none:=I.ok.hd hc;obtain⟨fp1,P1,S1,D1,u1,r1,a1,_,g1⟩:=Src.draws (A:=X.A.in1) (c:=.lst a) hh I hx t1 (hf it (by simp)).1;subst hl;obtain⟨f0,f1,f2,f3,f4,f5⟩:=hf it (by simp);exact wpAny_pyNext_enum_endD D1 he u1 fun h' hx'=>⟨rfl,I.turned (t':=s.toks) (fun b o hb q=>hx' b o hb q) f0 f1 f3 f4 f5⟩
 self:=fun _ _ _ _ _ st h=>by obtain⟨⟨old,he⟩,_⟩:=st;exact Kn he h
def xR(K:CF)(t:TA):TI:=fun σ H R=>t σ H fun vs H1=>∃a xs,vs=[.ref a]/\SqL K H1 a xs/\R (BJ K a) H1
theorem pU{X:Cx}{K:CF}(hK:X.K=K){b:Expr}{ta:TA}{p pos tp:Pos}{elts:List Expr}{kk:Nat}(hg:Gl X "enumerate")(hm:X.mg "enumerate"=none)(ha:PA X [b] ta)(hs:starEach [b] X.env=[(false,eval b X.env)]:=by rfl):
  PI X (.Tuple elts kk tp) (.Call (.Name "enumerate" p) [b] [] pos) (xR K ta):=by
 subst hK;intro pins s σ H R I h;refine Mt<|fh I hg hm boot_enumerate<|E7 (bF (ha pos pins s σ H _ I h) fun us s1⟨vs,H1,I1,r1,q1⟩=>?_) hs rfl;obtain⟨a,xs,e,h1,q⟩:=q1;subst e;obtain⟨v1,rfl,ra⟩:=f9 r1;cases ra;obtain⟨its,rv,pl,hz⟩:=I1.list h1;refine call_enumerate_list pl.isList fun h' he hi hsz kp=>?_;refine Kn he ?_;refine⟨s1.heap.objs.size+1,[s1.heap.objs.size+1,s1.heap.objs.size],_,_,H1,rfl,I1.kept (t':=s1.toks) kp,rg a _ _ (iR s1.heap.objs.size 1 0 (by decide)),⟨⟨_,he⟩,hi⟩,fun b hb=>?_,q⟩;have hb':s1.heap.objs.size<=b:=by
  simp only[CW,DE,or_false]at hb;rcases hb with z|z<;>rw[z]
  ·exact Ex _ 1
  ·exact CU _
 exact I1.fpOk hb'<|I1.hok.fresh hb'
end L2
open L2.Keep renaming get->MC
open L2.Src renaming at_keep->Ho,at_obj->HP,draws->IG,iter->MD,inj->MZ
namespace Wb
open PySem L2
abbrev Rp(α:Type):=Hp->α->V->Prop
class Mono{α:Type}(R:Rp α):Prop where
 mono:∀{H H':Hp}{m:α}{v:V},Same H H'->R H m v->R H' m v
def LR{α:Type}(R:Rp α)(H:Hp)(ms:List α)(vs:List V):Prop:=vs.length=ms.length/\∀(i:Nat)(v:V)(m:α),vs[i]? =some v->ms[i]? =some m->R H m v
theorem LR.nil{α:Type}{R:Rp α}{H:Hp}:LR R H [] []:=⟨rfl,fun i v m e=>by simp at e⟩
theorem LR.same{α:Type}{R:Rp α}[Mono R]{H H':Hp}{ms:List α}{vs:List V}(h:LR R H ms vs)(e:Same H H'):LR R H' ms vs:=⟨h.1,fun i v m a b=>Mono.mono e<|h.2 i v m a b⟩
theorem LR.snoc{α:Type}{R:Rp α}{H:Hp}{ms:List α}{vs:List V}{m:α}{v:V}(h:LR R H ms vs)(r:R H m v):LR R H (ms++[m]) (vs++[v]):=by
 refine⟨by simp[h.1],fun i v' m' a b=>?_⟩;by_cases hi:i<vs.length
 ·rw[Dq hi]at a;rw[Dq (by rw[<-h.1];exact hi)]at b;exact h.2 i v' m' a b
 ·rw[Dg (by omega)]at a;rw[Dg (by rw[<-h.1];omega)]at b;rw[<-h.1]at b;cases e:i-vs.length with
  |zero=>rw[e]at a b;simp at a b;subst a b;exact r
  |succ n=>rw[e]at a;simp at a
theorem LR.get{α:Type}{R:Rp α}{H:Hp}{ms:List α}{vs:List V}{i:Nat}{m:α}(h:LR R H ms vs)(e:ms[i]? =some m):∃v,vs[i]? =some v/\R H m v:=by
 have hi:i<vs.length:=by rw[h.1];exact(CL.mp e).1
 exact⟨vs[i],by simp[hi],h.2 i _ m (by simp[hi]) e⟩
theorem LR.got{α:Type}{R:Rp α}{H:Hp}{ms:List α}{vs:List V}{i:Nat}{v:V}(h:LR R H ms vs)(e:vs[i]? =some v):∃m,ms[i]? =some m/\R H m v:=by
 have hi:i<ms.length:=by rw[<-h.1];exact(CL.mp e).1
 exact⟨ms[i],by simp[hi],h.2 i v _ e (by simp[hi])⟩
def isL{α:Type}(R:Rp α):Rp (List α):=fun H ms v=>∃p vs,v=.ref p/\H p=some (.lst vs)/\LR R H ms vs
instance zkeep1{α:Type}{R:Rp α}[Mono R]:Mono (isL R):=⟨fun e⟨p,vs,h1,h2,h3⟩=>⟨p,vs,h1,e _ _ h2,h3.same e⟩⟩
def isS:Rp (List Nat):=fun _ l v=>v=.str (sOf l)
instance zkeep2:Mono isS:=⟨fun _ h=>h⟩
def isI:Rp Int:=fun _ l v=>v=.int l
instance zkeep4:Mono isI:=⟨fun _ h=>h⟩
theorem LR.str{H:Hp}{ms:List (List Nat)}{vs:List V}(h:LR isS H ms vs):vs=ms.map fun l=>GW (sOf l):=by
 refine EW fun i=>?_;rw[CQ];cases e:ms[i]? with
 |none=>rw[Eg]at e;rw[Eg.mpr (by rw[h.1];exact e)];rfl
 |some m=>obtain⟨v,a,b⟩:=h.get e;rw[a];cases b;rfl
end Wb
open Wb.Mono renaming mono->Cz
namespace L2
open PySem PySem.Spec PyProof.Rows
section
variable{X:Cx}{K:CF}{w:D6}
theorem kL(h:X.K=K):dC X (.type "list") (fun xs H Q=>∃p ys,xs=[.ref p]/\(SqL K H p ys\/SqT K H p ys)/\∀l,H l=none->Q (.ref l) (cI H l<|.lst ys)):=h▸lS
end
end L2
namespace Wb
open PySem L2
theorem LR.take{α:Type}{R:Rp α}{H:Hp}{ms:List α}{vs:List V}(h:LR R H ms vs)(k:Nat):LR R H (ms.take k) (vs.take k):=by
 refine⟨by simp[h.1],fun i v m a b=>?_⟩;rw[List.getElem?_take]at a b;split at a;·rw[if_pos (by assumption)]at b;exact h.2 i v m a b
 ·cases a
theorem LR.drop{α:Type}{R:Rp α}{H:Hp}{ms:List α}{vs:List V}(h:LR R H ms vs)(k:Nat):LR R H (ms.drop k) (vs.drop k):=by
 refine⟨by simp[h.1],fun i v m a b=>?_⟩;rw[Fn]at a b;exact h.2 _ v m a b
theorem bg{H H':Hp}{p:Addr}(e:Same H H')(h:H' p=none):H p=none:=by
 cases z:H p with
 |none=>rfl
 |some x=>have:=e _ _ z;rw[h]at this;cases this
theorem rh{H H3:Hp}{p:Addr}{o:HO}(e:Same H H3)(h:H p=none):Same H (cI H3 p o):=fun a u z=>by
 rw[ax<|cg z h];exact e _ _ z
end Wb
namespace L2
open PySem PySem.Spec PyProof.Rows
section
variable{X:Cx}{K:CF}{w:D6}
theorem rj(hc:X.calm=true)(h:X.K=K):dC X (.builtin "sum") (fun xs H Q=>∃(p:Addr)(ns:List Int),xs=[.ref p]/\SqL K H p (ns.map FO)/\Q (.int ns.sum) H):=by
 subst h;intro pins s σ H xs us Q I r h;obtain⟨p,ns,rfl,hq,q⟩:=h;obtain⟨u,rfl,rx⟩:=f9 r;cases rx;obtain⟨its,r',pl,hz⟩:=I.list hq;have hi:=jq r';obtain⟨xs,hx⟩:=hi.allInts.items;have hl':s.heap.IsList p (intItems xs):=hx▸pl.isList;refine sum_intListG (I.ok.hd hc) hl' fun h' tk t' hk=>?_;have e1:ns=xs.toList.map (·.1):=by
  rw[<-nums_intItems,<-hx];exact(show numsOf its.toArray.toList=ns from hi.numsOf).symm
 have e2:preSum (numAt xs) xs.size=ns.sum:=by
  rw[preSum_eq,Fj (by simp),e1]
 rw[e2];exact⟨.int ns.sum,H,I.kept hk,⟨_,rfl⟩,q⟩
end
theorem n4:∀(xs:List V)(us:List CD),us.length=xs.length->(∀(j:Nat)(x:V)(u:CD),xs[j]? =some x->us[j]? =some u->RelV x u)->Vals xs us
 | [],[],_,_=>.nil
 |x::xs,u::us,hl,h=>.cons (h 0 x u rfl rfl) (n4 xs us (by simpa using hl) fun j x u a b=>h (j+1) x u (by simpa using a) (by simpa using b))
 | [],_::_,hl,_=>by simp at hl
 |_::_,[],hl,_=>by simp at hl
theorem iA{α β:Type}{F:α->β->Prop}:∀{l₁:List α}{l₂:List β},Paired F l₁ l₂->∀{j:Nat}{b:β},l₂[j]? =some b->∃a,l₁[j]? =some a/\F a b
 |_,_,.nil,j,b,h=>by simp at h
 |_,_,.cons r rs,0,b,h=>by simp at h;subst h;exact⟨_,rfl,r⟩
 |_,_,.cons r rs,j+1,b,h=>by simp at h;obtain⟨a,h1,h2⟩:=iA rs h;exact⟨a,by simpa using h1,h2⟩
section
variable{X:Cx}{K:CF}{w:D6}
theorem lX(h:X.K=K):dC X (.builtin "sorted") (fun xs H Q=>∃(p:Addr)(ns:List Int),xs=[.ref p]/\SqL K H p (ns.map FO)/\ns.length<64/\∀(q:Addr)(ns':List Int),H q=none->ns'.Perm ns->ns'.Pairwise (· <= ·)->Q (.ref q) (cI H q<|.lst<|ns'.map FO)):=by
 subst h;intro pins s σ H xs us Q I r h;obtain⟨p,ns,rfl,hq,h64,q⟩:=h;obtain⟨u,rfl,rx⟩:=f9 r;cases rx;obtain⟨its,r',pl,hz⟩:=I.list hq;have hi:=jq r';have hlen:=IntsAre.length hi;refine sorted_ints pl.isList hi (by omega) fun out ns' a1 a2 a3=>?_;obtain⟨e,he⟩:=sortedAll_at s.heap its out;have hl':=a2.length_eq;refine⟨.ref<|s.heap.objs.size+1,_,I.laid (t':=s.toks) (fun _ _=>sortedAll_old) (G9 _) (show ObjOk X.prog X.w _ _ _ (.lst<|ns'.map FO)from⟨by rw[Dc,E6];omega,out.toList,e,iz a1,by rw[Array.toArray_toList];exact he⟩),rfl,q _ ns' (I.hok.fresh<|G9 _) a2 a3⟩
theorem gE(h:X.K=K):OpR X (compareOp .NotIn) (fL K true):=h▸lR
end
end L2
namespace L2
theorem eX{k:Nat}{A:Dr}(r:Room k A):A.units+1<PySem.cLine:=by have:=r.un;omega
end L2
namespace L2
open PySem PySem.Spec PyProof.Rows
def tE(K:CF)(te:TE)(tk:TO):TE:=fun σ H Q=>te σ H fun x H1=>tk σ H1 fun k H2=>∃a xs,x=.ref a/\k=some (-1)/\SqL K H2 a xs/\∀p,H2 p=none->Q (.ref p) (cI H2 p<|.lst xs.reverse)
theorem tF{xs:List V}{us:List CD}(r:Vals xs us):Vals xs.reverse us.reverse:=by
 induction r with
 |nil=>exact .nil
 |cons h t ih=>rw[Ko,Ko];exact Paired.snoc ih h
theorem n5{X:Cx}{K:CF}(hK:X.K=K){e st:Expr}{te:TE}{tk:TO}{pos p2:Pos}(ops:Addr->Addr->List CD)(hs:∀a b:Addr,subscripted (.Slice none none (some st) p2) false (.ref a) (.ref b)=operate (ops a b) (getItem (.ref a)<|.ref b))(he:PE X e te)(hk:PO X (some st) tk):PE X (.Subscript e (.Slice none none (some st) p2) pos) (tE K te tk):=by
 subst hK;intro pins s σ H Q I h;refine JU<|bF (he pins s σ H _ I h) fun v s1 zz=>?_;obtain⟨x,H1,I1,r1,q1⟩:=zz;refine wpAny_Slice ?_;rw[JH];refine CG ?_;refine CG ?_;refine bF (hk pins s1 σ H1 _ I1 q1) fun vk s3 zz=>?_;obtain⟨k,H3,I3,pk,q3⟩:=zz;obtain⟨a,xs,rfl,rfl,hx,q⟩:=q3;cases r1;have I4:Inv X pins σ H3 {s3 with heap:=s3.heap.push {cls:=.type "slice",data:=.fields #[.none,.none,vk]}}:=I3.kept (t':=s3.toks) fun b ob q=>CB _ q;obtain⟨its,r,ht,hz⟩:=I4.list hx;have hlen:=r.length;show wpAny (model X.prog X.w) X.A (subscriptTail e (.Slice none none (some st) p2) (.ref a)<|.ref s3.heap.objs.size) (EP X pins σ Q) X.xe {s3 with heap:=s3.heap.push {cls:=.type "slice",data:=.fields #[.none,.none,vk]}};refine Mv (ops:=ops a s3.heap.objs.size) ht.isList.typeIs HW.lookup ?_<|hs _ _;refine Ig ht.isList (JW ..) .none .none pk (by decide) ?_ (by rw[CY];omega);rw[PySem.W.krv_pick];refine⟨.ref _,_,I4.laid (t':=s3.toks) (o:=.lst xs.reverse) (fun b ob q=>CB _ q) (CU _) ?_,rfl,q _<|I4.hok.fresh<|CU _⟩;exact⟨by rw[Hv];exact hz,_,0,tF r,CM _ rfl⟩
end L2
namespace Wb
open PySem L2
end Wb
namespace L2
open PySem PySem.Spec PyProof.Rows Wb
end L2
namespace L2
open PySem PySem.Spec PyProof.Rows
abbrev bU(h:Heap)(T:Addr)(a b c:CD):Prop:=h.get? T=some {cls:=.type "tuple",data:=.seq #[a,b,c]}
def A8(h:Heap)(o1 o2 o3:Obj):Heap:=(((h.push o1).push o2).push o3).push {cls:=.type "tuple",data:=.seq #[.ref h.objs.size,.ref (h.push o1).objs.size,.ref ((h.push o1).push o2).objs.size]}
def A9(h:Heap)(o1 o2 o3:Obj):Heap:=(A8 h o1 o2 o3).push {cls:=.type "tuple",data:=.seq #[.none,.none,.none]}
def yy(h:Heap)(o1 o2 o3:Obj):Heap:=(A9 h o1 o2 o3).push {cls:=.type "zip",data:=.fields #[.none,.bool false,.bool false,.ref (((h.push o1).push o2).push o3).objs.size,.ref (A8 h o1 o2 o3).objs.size]}
theorem kM(v1 v2 v3:CD)(o1 o2 o3:Obj):Meets (Fq.«zip.__new__» ⟨[.type "zip",v1,v2,v3],[]⟩) (fun _ R s=>eD v1 s.heap o1/\eD v2 (s.heap.push o1) o2/\eD v3 ((s.heap.push o1).push o2) o3/\R (.ok<|.ret<|.ref (A9 s.heap o1 o2 o3).objs.size) {s with heap:=yy s.heap o1 o2 o3}):=
 .of_wp fun prog w A R s h=>by
  obtain⟨hp,g,d,tk,os⟩:=s;obtain⟨i1,i2,i3,h⟩:=h;have hsub:=sub_zip;have j1:=fun(A:Dr)(E:CD->CH->Prop)(Q:CD->CH->Prop)(q:Q _ _)=>i1 prog w A E Q ⟨hp,g,d,tk,os⟩ rfl q;have j2:=fun(A:Dr)(E:CD->CH->Prop)(Q:CD->CH->Prop)(q:Q _ _)=>i2 prog w A E Q ⟨hp.push o1,g,d,tk,os⟩ rfl q;have j3:=fun(A:Dr)(E:CD->CH->Prop)(Q:CD->CH->Prop)(q:Q _ _)=>i3 prog w A E Q ⟨(hp.push o1).push o2,g,d,tk,os⟩ rfl q
  wp_walk using j1 _ _ _,j2 _ _ _,j3 _ _ _
  exact⟨_,rfl,h⟩
theorem jz(a b c:CD):checkTypeCall "zip" ⟨[a,b,c],[]⟩=pure ():=by kernel_rfl
theorem kN(a b c:CD):checkBuiltinCall "zip.__new__" ⟨[.type "zip",a,b,c],[]⟩=pure ():=by kernel_rfl
theorem gN(a b c d:CD):argsOk "object.__init__" ⟨[a,b,c,d],[]⟩:=by
 unfold argsOk;rw[J5 (id:="object.__init__") (n:=['_','_','t','i','n','i','_','_']) (o:=['t','c','e','j','b','o']) (by kernel_rfl) PySem.F.owner_object];kernel_rfl
theorem rk{P:CT}{w:D6}{A:Dr}{E:CD->CH->Prop}{s:CH}{v1 v2 v3:CD}{o1 o2 o3:Obj}{Q:CD->CH->Prop}(i1:eD v1 s.heap o1)(i2:eD v2 (s.heap.push o1) o2)(i3:eD v3 ((s.heap.push o1).push o2) o3)
  (f1:o1.isFreed=false) (f2:o2.isFreed=false) (f3:o3.isFreed=false)
  (q:∀h',FQ h' (s.heap.objs.size+5) (s.heap.objs.size+3) (s.heap.objs.size+4) .none->bU h' (s.heap.objs.size+3) (.ref s.heap.objs.size) (.ref<|s.heap.objs.size+1) (.ref<|s.heap.objs.size+2)->bU h' (s.heap.objs.size+4) .none .none .none->
   h'.get? s.heap.objs.size=some o1->h'.get? (s.heap.objs.size+1)=some o2->h'.get? (s.heap.objs.size+2)=some o3->(∀c o,s.heap.get? c=some o->h'.get? c=some o)->Q (.ref (s.heap.objs.size+5)) {s with heap:=h'}):
  wpAny (model P w) A (call (.type "zip") [v1,v2,v3]) Q E s:=by
 refine callType_new K0 (by decide) (jz _ _ _) (kN _ _ _) (fun obj=>gN obj _ _ _) Jc (kM v1 v2 v3 o1 o2 o3) ⟨i1,i2,i3,?_⟩;have z1:(s.heap.push o1).objs.size=s.heap.objs.size+1:=DJ ..;have z2:((s.heap.push o1).push o2).objs.size=s.heap.objs.size+2:=by rw[DJ,z1]
 have z3:(((s.heap.push o1).push o2).push o3).objs.size=s.heap.objs.size+3:=by rw[DJ,z2]
 have z4:(A8 s.heap o1 o2 o3).objs.size=s.heap.objs.size+4:=by unfold A8;rw[DJ,z3]
 have z5:(A9 s.heap o1 o2 o3).objs.size=s.heap.objs.size+5:=by unfold A9;rw[DJ,z4]
 have g6:(yy s.heap o1 o2 o3).get? (A9 s.heap o1 o2 o3).objs.size=some _:=CM _ rfl;have g5:(yy s.heap o1 o2 o3).get? (A8 s.heap o1 o2 o3).objs.size=some _:=CB _<|CM _ rfl;have g4:(yy s.heap o1 o2 o3).get? (((s.heap.push o1).push o2).push o3).objs.size=some _:=CB _<|CB _<|CM _ rfl;have g3:(yy s.heap o1 o2 o3).get? ((s.heap.push o1).push o2).objs.size=some o3:=CB _<|CB _<|CB _<|CM _ f3;have g2:(yy s.heap o1 o2 o3).get? (s.heap.push o1).objs.size=some o2:=CB _<|CB _<|CB _<|CB _<|CM _ f2;have g1:(yy s.heap o1 o2 o3).get? s.heap.objs.size=some o1:=CB _<|CB _<|CB _<|CB _<|CB _<|CM _ f1;show _/\_;rw[z3,z4,z5]at g6;rw[z1,z2,z3]at g4;rw[z4]at g5;rw[z2]at g3;rw[z1]at g2;rw[z5];exact⟨⟨_,g6,rfl⟩,q _ g6 g4 g5 g1 g2 g3 fun c o x=>CB _<|CB _<|CB _<|CB _<|CB _<|CB _ x⟩
section
variable{P:CT}{w:D6}{A:Dr}{E:CD->CH->Prop}{s:CH}{z TI TO i1 i2 i3:Addr}{fp1 fp2 fp3:List Addr}{n1 n2 n3 k:Nat}{P1 P2 P3:Nat->CD->Prop}{S1 S2 S3:Nat->Heap->Prop}{a b c:CD}
theorem bG{T:Addr}{a b c x:CD}{k:Nat}{Q:Unit->CH->Prop}(hT:bU s.heap T a b c)
  (h:∀h',h'.get? T=some {cls:=.type "tuple",data:=.seq ((#[a,b,c]:Array CD).setIfInBounds k x)}->D5 T s.heap h'->Q () {s with heap:=h'}):
  wpAny (model P w) A (updateSeq T (·.setIfInBounds k x)) Q E s:=by
 refine wpAny_updateSeq hT rfl<|h _ ?_<|E4 ..;rw[DS _ hT rfl];simp[Fg]
structure ZApart3(z TI TO i1 i2 i3:Addr)(fp1 fp2 fp3:List Addr):Prop where
 c1:TI≠z
 c2:TO≠z
 c3:i1≠z
 c4:i2≠z
 c4':i3≠z
 c5:TI≠TO
 c6:TI≠i1
 c7:TI≠i2
 c7':TI≠i3
 c8:TO≠i1
 c9:TO≠i2
 c9':TO≠i3
 d1:z∉fp1/\TO∉fp1/\i2∉fp1/\i3∉fp1
 d2:z∉fp2/\TO∉fp2/\i1∉fp2/\i3∉fp2
 d3:z∉fp3/\TO∉fp3/\i1∉fp3/\i2∉fp3
theorem rl{Q:Option CD->CH->Prop}(D1:J4 P w A.in1 i1 fp1 n1 P1 S1)(D2:J4 P w A.in1 i2 fp2 n2 P2 S2)(D3:J4 P w A.in1 i3 fp3 n3 P3 S3)(Z:ZApart3 z TI TO i1 i2 i3 fp1 fp2 fp3)(h1:k<n1)(h2:k<n2)(h3:k<n3)(hz:FQ s.heap z TI TO .none)
  (hI:bU s.heap TI (.ref i1) (.ref i2) (.ref i3)) (hO:bU s.heap TO a b c) (t1:S1 k s.heap) (t2:S2 k s.heap) (t3:S3 k s.heap)
  (q:∀x y u h' tk T,P1 k x->P2 k y->P3 k u->T=s.heap.objs.size->FQ h' z TI TO (rawInt T)->bU h' TO x y u->S1 (k+1) h'->S2 (k+1) h'->S3 (k+1) h'->bU h' T x y u->
   (∀c o,c≠z->c≠TO->c≠i1->c≠i2->c≠i3->s.heap.get? c=some o->h'.get? c=some o)->Q (some (.ref T)) {s with heap:=h',toks:=tk}):
  wpAny (model P w) A (pyNext<|.ref z) Q E s:=by
 have hT:s.TypeIs (.ref z) "zip":=⟨_,hz,rfl⟩
 unfold pyNext;refine Cy<|EF<|DD (name:=CI "__next__") hT En<|Dy En hT FW ?_<|FJ _;obtain⟨hp,gg,dd,tk0,os⟩:=s;show wpAny (model P w) _ (field (.ref z) 2>>=_) _ _ _;refine Cy<|Dl hz rfl (x:=.bool false) rfl ?_;show wpAny (model P w) _ (field (.ref z) 3>>=_) _ _ _;refine Cy<|Dl hz rfl (x:=.ref TI) rfl<|Cy<|DL hI rfl ?_;show wpAny (model P w) _ (Dz (.ref z)>>=_) _ _ _;refine Cy ?_;unfold Dz;refine Cy<|Dl hz rfl (x:=.none) rfl<|CG ?_;simp only[if_true];refine Cy (FV (Cy (Dl hz rfl (x:=.ref TO) rfl (Cy (DX hz (by simp) fun g1 y1 b1=>?_)))));replace y1:FQ g1 z TI TO .ellipsis:=y1;replace b1:D5 z hp g1:=b1;refine Cy ?_;simp only[GZ,Hq,Gn,GI];refine Cy<|Cy<|F8 ?_;show wpAny (model P w) _ (Di (.ref i1)>>=_) _ _ _;refine Cy<|D1.item k _ _ _ h1 (aw D1 t1 b1 Z.d1.1) fun x g2 tk2 px u1 b2=>CG ?_;replace b2:D5 i1 g1 g2:=b2;have O2:bU g2 TO a b c:=b2.extBut _ _ Z.c8<|b1.extBut _ _ Z.c2 hO;refine Cy<|DL O2 rfl<|Cy<|bG O2 fun g3 O3 b3=>?_;replace O3:bU g3 TO x b c:=O3;replace b3:D5 TO g2 g3:=b3;refine Cy<|Ga<|CG<|Cy<|Cy<|F8 ?_;show wpAny (model P w) _ (Di (.ref i2)>>=_) _ _ _;refine Cy<|D2.item k _ _ _ h2 (aw D2 (aw D2 (aw D2 t2 b1 Z.d2.1) b2 Z.d2.2.2.1) b3 Z.d2.2.1) fun y g4 tk4 py u2 b4=>CG ?_;replace b4:D5 i2 g3 g4:=b4;have O4:bU g4 TO x b c:=b4.extBut _ _ Z.c9 O3;refine Cy<|DL O4 rfl<|Cy<|bG O4 fun g5 O5 b5=>?_;replace O5:bU g5 TO x y c:=O5;replace b5:D5 TO g4 g5:=b5;refine Cy<|Ga<|CG<|Cy<|Cy<|F8 ?_;show wpAny (model P w) _ (Di (.ref i3)>>=_) _ _ _;refine Cy<|D3.item k _ _ _ h3 (aw D3 (aw D3 (aw D3 (aw D3 (aw D3 t3 b1 Z.d3.1) b2 Z.d3.2.2.1) b3 Z.d3.2.1) b4 Z.d3.2.2.2) b5 Z.d3.2.1) fun u g6 tk6 pu u3 b6=>CG ?_;replace b6:D5 i3 g5 g6:=b6;have O6:bU g6 TO x y c:=b6.extBut _ _ Z.c9' O5;refine Cy<|DL O6 rfl<|Cy<|bG O6 fun g7 O7 b7=>?_;replace O7:bU g7 TO x y u:=O7;replace b7:D5 TO g6 g7:=b7;refine Cy<|Ga<|CG<|CG<|Cy<|DL O7 rfl<|Cy<|Jt ?_;have sz:g7.objs.size=hp.objs.size:=by rw[b7.1,b6.1,b5.1,b4.1,b3.1,b2.1,b1.1]
 have y7:FQ g7 z TI TO .ellipsis:=b7.extBut _ _ Z.c2.symm<|b6.extBut _ _ Z.c4'.symm<|b5.extBut _ _ Z.c2.symm<|b4.extBut _ _ Z.c4.symm<|b3.extBut _ _ Z.c2.symm<|b2.extBut _ _ Z.c3.symm y1;have k7:∀c o,c≠z->c≠TO->c≠i1->c≠i2->c≠i3->hp.get? c=some o->g7.get? c=some o:=fun c o e1 e2 e3 e4 e5 e=>b7.extBut _ _ e2<|b6.extBut _ _ e5<|b5.extBut _ _ e2<|b4.extBut _ _ e4<|b3.extBut _ _ e2<|b2.extBut _ _ e3<|b1.extBut _ _ e1 e;have v1:S1 (k+1) g7:=aw D1 (aw D1 (aw D1 (aw D1 (aw D1 u1 b3 Z.d1.2.1) b4 Z.d1.2.2.1) b5 Z.d1.2.1) b6 Z.d1.2.2.2) b7 Z.d1.2.1;have v2:S2 (k+1) g7:=aw D2 (aw D2 (aw D2 u2 b5 Z.d2.2.1) b6 Z.d2.2.2.2) b7 Z.d2.2.1;have v3:S3 (k+1) g7:=aw D3 u3 b7 Z.d3.2.1;have lz:z<g7.objs.size:=CP y7;show wpAny (model P w) _ (EC (.ref z) (.ref g7.objs.size)>>=_) _ _ _;refine Cy ?_;unfold EC;have y8:FQ (g7.push {cls:=.type "tuple",data:=.seq #[x,y,u]}) z TI TO .ellipsis:=CB _ y7;refine Cy (DX y8 (by simp) fun g9 y9 b9=>?_);replace y9:FQ g9 z TI TO (rawInt g7.objs.size):=y9;replace b9:D5 z (g7.push {cls:=.type "tuple",data:=.seq #[x,y,u]}) g9:=b9;refine DX y9 (by simp) fun g10 y10 b10=>?_;replace y10:FQ g10 z TI TO (rawInt g7.objs.size):=y10;replace b10:D5 z g9 g10:=b10;have up:∀c o,c≠z->g7.get? c=some o->g10.get? c=some o:=fun c o e1 e=>b10.extBut _ _ e1<|b9.extBut _ _ e1<|CB _ e;have T8:bU g10 g7.objs.size x y u:=b10.extBut _ _ (ER lz)<|b9.extBut _ _ (ER lz)<|CM _ rfl;refine CG ⟨_,rfl,CG<|q x y u g10 _ g7.objs.size px py pu sz y10 (up _ _ Z.c2 O7) (D1.frame _ _ _ v1 fun b hb o e=>up b o (fun q=>Z.d1.1<|q▸hb) e) (D2.frame _ _ _ v2 fun b hb o e=>up b o (fun q=>Z.d2.1<|q▸hb) e) (D3.frame _ _ _ v3 fun b hb o e=>up b o (fun q=>Z.d3.1<|q▸hb) e) T8 fun c o e1 e2 e3 e4 e5 e=>up c o e1<|k7 c o e1 e2 e3 e4 e5 e⟩
theorem tG{Q:Option CD->CH->Prop}(hh:A.handled=none)(D1:J4 P w A.in1 i1 fp1 n1 P1 S1)(D2:J4 P w A.in1 i2 fp2 n2 P2 S2)(D3:J4 P w A.in1 i3 fp3 n3 P3 S3)(Z:ZApart3 z TI TO i1 i2 i3 fp1 fp2 fp3)(hk:k=n1\/(k<n1/\k=n2)\/(k<n1/\k<n2/\k=n3))(hz:FQ s.heap z TI TO .none)
  (hI:bU s.heap TI (.ref i1) (.ref i2) (.ref i3)) (hO:bU s.heap TO a b c) (t1:S1 k s.heap) (t2:S2 k s.heap) (t3:S3 k s.heap)
  (q:∀h' tk,(∀c o,c≠z->c≠TO->c≠i1->c≠i2->c≠i3->s.heap.get? c=some o->h'.get? c=some o)->Q none {s with heap:=h',toks:=tk}):
  wpAny (model P w) A (pyNext<|.ref z) Q E s:=by
 have hT:s.TypeIs (.ref z) "zip":=⟨_,hz,rfl⟩
 unfold pyNext;refine Cy<|EF<|DD (name:=CI "__next__") hT En<|Dy En hT FW ?_<|FJ _;obtain⟨hp,gg,dd,tk0,os⟩:=s;show wpAny (model P w) _ (field (.ref z) 2>>=_) _ _ _;refine Cy<|Dl hz rfl (x:=.bool false) rfl ?_;show wpAny (model P w) _ (field (.ref z) 3>>=_) _ _ _;refine Cy<|Dl hz rfl (x:=.ref TI) rfl<|Cy<|DL hI rfl ?_;show wpAny (model P w) _ (Dz (.ref z)>>=_) _ _ _;refine Cy ?_;unfold Dz;refine Cy<|Dl hz rfl (x:=.none) rfl<|CG ?_;simp only[if_true];refine Cy (FV (Cy (Dl hz rfl (x:=.ref TO) rfl (Cy (DX hz (by simp) fun g1 y1 b1=>?_)))));replace y1:FQ g1 z TI TO .ellipsis:=y1;replace b1:D5 z hp g1:=b1;refine Cy ?_;simp only[GZ,Hq,Gn,GI];refine Cy<|Cy<|F8 ?_;show wpAny (model P w) _ (Di (.ref i1)>>=_) _ _ _;rcases hk with hk|hk
 ·subst hk;refine Cy<|D1.done _ _ _ (aw D1 t1 b1 Z.d1.1) fun g2 e b2 he=>?_;obtain⟨oe,hoe,hce⟩:=he;replace b2:F9 i1 g1 g2:=b2;have y2:FQ g2 z TI TO .ellipsis:=b2 _ _ Z.c3.symm y1;have ez:e≠z:=fun x=>by subst x;rw[y2]at hoe;cases hoe;simp at hce
  refine DX y2 (by simp) fun g3 _ b3=>?_;exact Cy<|Ew (T:="StopIteration") (b:=true) ⟨oe,b3.extBut _ _ ez hoe,hce⟩ Fb<|CG<|q g3 _ fun c o e1 _ e3 _ _ x=>b3.extBut _ _ e1<|b2 _ _ e3<|b1.extBut _ _ e1 x
 ·have hk1:k< n1:=by rcases hk with z | z <;> exact z.1
  refine Cy<|D1.item k _ _ _ hk1 (aw D1 t1 b1 Z.d1.1) fun x g2 tk2 px u1 b2=>CG ?_;replace b2:D5 i1 g1 g2:=b2;have O2:bU g2 TO a b c:=b2.extBut _ _ Z.c8<|b1.extBut _ _ Z.c2 hO;refine Cy<|DL O2 rfl<|Cy<|bG O2 fun g3 O3 b3=>?_;replace b3:D5 TO g2 g3:=b3;replace O3:bU g3 TO x b c:=O3;refine Cy<|Ga<|CG<|Cy<|Cy<|F8 ?_;show wpAny (model P w) _ (Di (.ref i2)>>=_) _ _ _;rcases hk with⟨_,hk2⟩|⟨_,hk2,hk3⟩
  ·subst hk2;refine Cy<|D2.done _ _ _ (aw D2 (aw D2 (aw D2 t2 b1 Z.d2.1) b2 Z.d2.2.2.1) b3 Z.d2.2.1) fun g4 e b4 he=>?_;obtain⟨oe,hoe,hce⟩:=he;replace b4:F9 i2 g3 g4:=b4;have y4:FQ g4 z TI TO .ellipsis:=b4 _ _ Z.c4.symm<|b3.extBut _ _ Z.c2.symm<|b2.extBut _ _ Z.c3.symm y1;have ez:e≠z:=fun x=>by subst x;rw[y4]at hoe;cases hoe;simp at hce
   refine DX y4 (by simp) fun g5 _ b5=>?_;exact Cy<|Ew (T:="StopIteration") (b:=true) ⟨oe,b5.extBut _ _ ez hoe,hce⟩ Fb<|CG<|q g5 _ fun c o e1 e2 e3 e4 _ x=>b5.extBut _ _ e1<|b4 _ _ e4<|b3.extBut _ _ e2<|b2.extBut _ _ e3<|b1.extBut _ _ e1 x
  ·subst hk3;refine Cy<|D2.item k _ _ _ hk2 (aw D2 (aw D2 (aw D2 t2 b1 Z.d2.1) b2 Z.d2.2.2.1) b3 Z.d2.2.1) fun y g4 tk4 py u2 b4=>CG ?_;replace b4:D5 i2 g3 g4:=b4;have O4:bU g4 TO x b c:=b4.extBut _ _ Z.c9 O3;refine Cy<|DL O4 rfl<|Cy<|bG O4 fun g5 O5 b5=>?_;replace b5:D5 TO g4 g5:=b5;refine Cy<|Ga<|CG<|Cy<|Cy<|F8 ?_;show wpAny (model P w) _ (Di (.ref i3)>>=_) _ _ _;refine Cy<|D3.done _ _ _ (aw D3 (aw D3 (aw D3 (aw D3 (aw D3 t3 b1 Z.d3.1) b2 Z.d3.2.2.1) b3 Z.d3.2.1) b4 Z.d3.2.2.2) b5 Z.d3.2.1) fun g6 e b6 he=>?_;obtain⟨oe,hoe,hce⟩:=he;replace b6:F9 i3 g5 g6:=b6;have y6:FQ g6 z TI TO .ellipsis:=b6 _ _ Z.c4'.symm<|b5.extBut _ _ Z.c2.symm<|b4.extBut _ _ Z.c4.symm<|b3.extBut _ _ Z.c2.symm<|b2.extBut _ _ Z.c3.symm y1;have ez:e≠z:=fun x=>by subst x;rw[y6]at hoe;cases hoe;simp at hce
   refine DX y6 (by simp) fun g7 _ b7=>?_;exact Cy<|Ew (T:="StopIteration") (b:=true) ⟨oe,b7.extBut _ _ ez hoe,hce⟩ Fb<|CG<|q g7 _ fun c o e1 e2 e3 e4 e5 x=>b7.extBut _ _ e1<|b6 _ _ e5<|b5.extBut _ _ e2<|b4.extBut _ _ e4<|b3.extBut _ _ e2<|b2.extBut _ _ e3<|b1.extBut _ _ e1 x
end
def Aa(K:CF)(c1 c2 c3:Src):It:=
  ⟨fun i H=>∃xs ys us x y u,c1.has K H xs/\c2.has K H ys/\c3.has K H us/\xs[i]? =some x/\ys[i]? =some y/\us[i]? =some u,
   fun i H v H'=>∃p x y u,H p=none/\v=.ref p/\(∀xs,c1.has K H xs->xs[i]? =some x)/\(∀ys,c2.has K H ys->ys[i]? =some y)/\(∀us,c3.has K H us->us[i]? =some u)/\H'=cI H p (.tup [x,y,u]),
   fun i H=>∃xs ys us,c1.has K H xs/\c2.has K H ys/\c3.has K H us/\(i=xs.length\/(i<xs.length/\i=ys.length)\/(i<xs.length/\i<ys.length/\i=us.length))⟩
def Bz(c1 c2 c3:Src)(z TI TO i1 i2 i3:Addr)(i:Nat)(h:Heap):Prop:=FQ h z TI TO .none/\bU h TI (.ref i1) (.ref i2) (.ref i3)/\(∃a b c,bU h TO a b c)/\c1.at i1 i h/\c2.at i2 i h/\c3.at i3 i h
structure ZIds3(z TI TO i1 i2 i3:Addr):Prop where
 c1:TI≠z
 c2:TO≠z
 c3:i1≠z
 c4:i2≠z
 c4':i3≠z
 c5:TI≠TO
 c6:TI≠i1
 c7:TI≠i2
 c7':TI≠i3
 c8:TO≠i1
 c9:TO≠i2
 c9':TO≠i3
 c10:i1≠i2
 c11:i1≠i3
 c12:i2≠i3
theorem pV{X:Cx}{pins:List (Addr×Obj)}{σ:St}{H:Hp}{s:CH}{z TI TO i1 i2 i3:Addr}{fp1 fp2 fp3:List Addr}(I:Inv X pins σ H s)(Z:ZIds3 z TI TO i1 i2 i3)(hf:∀b∈[z,TI,TO,i1,i2,i3],FpOk X pins H b)
  (g1:∀b∈fp1,b=i1\/H b≠none\/∃o,X.base.get? b=some o) (g2:∀b∈fp2,b=i2\/H b≠none\/∃o,X.base.get? b=some o) (g3:∀b∈fp3,b=i3\/H b≠none\/∃o,X.base.get? b=some o):ZApart3 z TI TO i1 i2 i3 fp1 fp2 fp3:=by
 have no:∀b∈[z,TI,TO,i1,i2,i3],¬(H b≠none\/∃o,X.base.get? b=some o):=fun b hb q=>by
  rcases q with q|⟨o,q⟩
  ·exact q (hf b hb).1
  ·rcases (hf b hb).2.2.2.1 with y | y;·exact I.ok.noex b o q y
   ·exact absurd (CN (CN (CP q) I.ok.bsz) y)<|DH _
 refine⟨Z.c1,Z.c2,Z.c3,Z.c4,Z.c4',Z.c5,Z.c6,Z.c7,Z.c7',Z.c8,Z.c9,Z.c9',⟨fun m=>?_,fun m=>?_,fun m=>?_,fun m=>?_⟩,⟨fun m=>?_,fun m=>?_,fun m=>?_,fun m=>?_⟩,⟨fun m=>?_,fun m=>?_,fun m=>?_,fun m=>?_⟩⟩;·exact(g1 _ m).elim (fun e=>Z.c3 e.symm) (no z (by simp))
 ·exact(g1 _ m).elim (fun e=>Z.c8 e) (no TO (by simp))
 ·exact(g1 _ m).elim (fun e=>Z.c10 e.symm) (no i2 (by simp))
 ·exact(g1 _ m).elim (fun e=>Z.c11 e.symm) (no i3 (by simp))
 ·exact(g2 _ m).elim (fun e=>Z.c4 e.symm) (no z (by simp))
 ·exact(g2 _ m).elim (fun e=>Z.c9 e) (no TO (by simp))
 ·exact(g2 _ m).elim (fun e=>Z.c10 e) (no i1 (by simp))
 ·exact(g2 _ m).elim (fun e=>Z.c12 e.symm) (no i3 (by simp))
 ·exact(g3 _ m).elim (fun e=>Z.c4' e.symm) (no z (by simp))
 ·exact(g3 _ m).elim (fun e=>Z.c9' e) (no TO (by simp))
 ·exact(g3 _ m).elim (fun e=>Z.c11 e) (no i1 (by simp))
 ·exact(g3 _ m).elim (fun e=>Z.c12 e) (no i2 (by simp))
theorem rm{P:CT}{w:D6}{K:CF}{elts:List Expr}{kk:Nat}{tp:Pos}(c1 c2 c3:Src)(z TI TO i1 i2 i3:Addr)(Z:ZIds3 z TI TO i1 i2 i3):
  Turn P w K (.Tuple elts kk tp) (Aa K c1 c2 c3) [z,TI,TO,i1,i2,i3] z (Bz c1 c2 c3 z TI TO i1 i2 i3) where
 mem:=by simp
 obj:=fun i h st b hb=>by
  obtain⟨hz,hI,⟨a,b',c',hO⟩,t1,t2,t3⟩:=st;obtain⟨o1,e1,v1,d1⟩:=HP t1;obtain⟨o2,e2,v2,d2⟩:=HP t2;obtain⟨o3,e3,v3,d3⟩:=HP t3;simp only[CW,DE,or_false]at hb;rcases hb with rfl|rfl|rfl|rfl|rfl|rfl;·exact⟨_,hz,fun v q=>by cases (show Hi _=FG v from q)⟩
  ·exact⟨_,hI,fun v q=>by cases (show Iu _ _=FG v from q)⟩
  ·exact⟨_,hO,fun v q=>by cases (show Iu _ _=FG v from q)⟩
  ·exact⟨_,e1,fun v q=>by rw[d1]at q;cases q⟩
  ·exact⟨_,e2,fun v q=>by rw[d2]at q;cases q⟩
  ·exact⟨_,e3,fun v q=>by rw[d3]at q;cases q⟩
 keep:=fun i h h' st k=>by
  obtain⟨hz,hI,⟨a,b',c',hO⟩,t1,t2,t3⟩:=st;exact⟨k z (by simp) _ hz,k TI (by simp) _ hI,⟨a,b',c',k TO (by simp) _ hO⟩,Ho t1 (k i1 (by simp)),Ho t2 (k i2 (by simp)),Ho t3 (k i3 (by simp))⟩
 item:=by
  intro X hP hw hK hc i pins s σ H E I hf st hg;subst hP hw hK;obtain⟨xs,ys,us,x,y,u,hx,hy,hu,ex,ey,eu⟩:=hg;obtain⟨hz,hI,⟨a,b',c',hO⟩,t1,t2,t3⟩:=st;have hh:X.A.in1.handled=none:=I.ok.hd hc;obtain⟨fp1,P1,S1,D1,u1,r1,a1,_,g1⟩:=IG (A:=X.A.in1) hh I hx t1 (hf i1 (by simp)).1;obtain⟨fp2,P2,S2,D2,u2,r2,a2,_,g2⟩:=IG (A:=X.A.in1) hh I hy t2 (hf i2 (by simp)).1;obtain⟨fp3,P3,S3,D3,u3,r3,a3,_,g3⟩:=IG (A:=X.A.in1) hh I hu t3 (hf i3 (by simp)).1;have ZA:=pV I Z hf g1 g2 g3;refine rl D1 D2 D3 ZA (CL.mp ex).1 (CL.mp ey).1 (CL.mp eu).1 hz hI hO u1 u2 u3 fun vx vy vu h' tk T px py pu hT hz' hO' w1 w2 w3 hTp kp=>?_;obtain⟨x',ex',rx⟩:=r1 i vx px;obtain⟨y',ey',ry⟩:=r2 i vy py;obtain⟨u',eu',ru⟩:=r3 i vu pu;rw[ex]at ex';cases ex';rw[ey]at ey';cases ey';rw[eu]at eu';cases eu';have nT:H T=none:=by rw[hT];exact I.hok.fresh<|CU _
  refine⟨_,rfl,HR hz' fun h2 hz2 sb=>?_⟩;have lt:∀{c o},s.heap.get? c=some o->c≠T:=fun e=>by rw[hT];exact D0<|CP e
  have up:∀c o,c≠z->h'.get? c=some o->h2.get? c=some o:=fun c o hc e=>(sb.2 c hc).trans e;have kp2:∀b o,b∉[z,TO,i1,i2,i3]->s.heap.get? b=some o->h2.get? b=some o:=fun b o hb e=>by
   simp only[CW,DE,or_false,not_or]at hb;exact up b o hb.1<|kp b o hb.1 hb.2.1 hb.2.2.1 hb.2.2.2.1 hb.2.2.2.2 e
  have ch:∀b∈[z,TO,i1,i2,i3],b∈[z,TI,TO,i1,i2,i3]:=fun b hb=>by
   simp only[CW,DE,or_false]at hb ⊢;rcases hb with h|h|h|h|h<;>simp[h]
  have gm:∀b u,H b=some u->b∉[z,TO,i1,i2,i3]/\b≠T:=fun b u e=>⟨fun hb=>(by rw[(hf b<|ch b hb).1]at e;cases e),fun q=>(by rw[q,nT]at e;cases e)⟩
  have I2:Inv X pins σ (cI H T<|.tup [x,y,u]) {s with heap:=h2,gens:=s.gens,drawn:=s.drawn,toks:=tk}:=by
   refine I.step (g':=s.gens) (d':=s.drawn) (t':=tk) (ch:=[z,TO,i1,i2,i3]) (fun b hb=>⟨(hf b<|ch b hb).2.2.2.1,(hf b<|ch b hb).2.1,(hf b<|ch b hb).2.2.2.2.1,(hf b<|ch b hb).2.2.2.2.2⟩) (fun b o _ _ hb e _=>kp2 b o hb e) (fun b o _ _ hb e _=>⟨o.slots,kp2 b o hb e⟩)
    (fun b o hb e n=>by rw[ax<|lt e];exact n) (fun b o hb e=>⟨o,kp2 b o hb e⟩) (fun b xs e=>by rw[ax (gm b _ e).2];exact e) (fun b o u e=>by rw[ax (gm b _ e).2];exact e) (fun b ps e=>⟨#[],by rw[ax (gm b _ e).2,e];simp⟩) (fun m hm=>?_) (fun b u e=>?_) I.bare
   ·obtain⟨o,es,ep,ho,r⟩:=hm;exact⟨o,es,ep,kp2 _ o (fun hb=>(hf _<|ch _ hb).2.1 rfl) ho,r⟩
   ·by_cases hb:b=T
    ·subst hb;rw[aG]at e;cases e;refine⟨(by show 3<=sizeLine;rw[E6];decide),[vx,vy,vu],.cons rx<|.cons ry<|.cons ru .nil,⟨_,up _ _ ?_ hTp,⟨rfl,rfl⟩,_,rfl⟩⟩;exact fun q=>lt hz q.symm
    ·rw[ax hb]at e;refine(I.hok b u e).stay (fun c v hc q=>kp2 c v ?_ q) (fun c q=>by rw[ax (gm c _ q).2];exact q) fun c xs q=>by rw[ax (gm c _ q).2];exact q
     rcases hc with q|q;·rw[q];exact(gm b u e).1
     ·exact(gm c _ q).1
  refine⟨.ref T,_,I2,rfl,⟨T,x,y,u,nT,rfl,fun xs' h=>by rw[MZ I h hx];exact ex,fun ys' h=>by rw[MZ I h hy];exact ey,fun us' h=>by rw[MZ I h hu];exact eu,rfl⟩,⟨hz2,up _ _ Z.c1<|kp _ _ Z.c1 Z.c5 Z.c6 Z.c7 Z.c7' hI,⟨_,_,_,up _ _ Z.c2 hO'⟩,Ho (a1 _ _ w1) fun o e=>up _ o Z.c3 e,Ho (a2 _ _ w2) fun o e=>up _ o Z.c4 e,Ho (a3 _ _ w3) fun o e=>up _ o Z.c4' e⟩,fun b hb=>?_⟩;have hbT:b≠T:=by
   obtain⟨o,e⟩:∃o,s.heap.get? b=some o:=by
    obtain⟨o1,e1,_⟩:=HP t1;obtain⟨o2,e2,_⟩:=HP t2;obtain⟨o3,e3,_⟩:=HP t3;simp only[CW,DE,or_false]at hb;rcases hb with rfl|rfl|rfl|rfl|rfl|rfl;·exact⟨_,hz⟩
    ·exact⟨_,hI⟩
    ·exact⟨_,hO⟩
    ·exact⟨_,e1⟩
    ·exact⟨_,e2⟩
    ·exact⟨_,e3⟩
   exact lt e
  rw[ax hbT];exact(hf b hb).1
 done:=by
  intro X hP hw hK hc i pins s σ H E I hf st hg;subst hP hw hK;obtain⟨xs,ys,us,hx,hy,hu,hend⟩:=hg;obtain⟨hz,hI,⟨a,b',c',hO⟩,t1,t2,t3⟩:=st;have hh:X.A.in1.handled=none:=I.ok.hd hc;obtain⟨fp1,P1,S1,D1,u1,r1,a1,_,g1⟩:=IG (A:=X.A.in1) hh I hx t1 (hf i1 (by simp)).1;obtain⟨fp2,P2,S2,D2,u2,r2,a2,_,g2⟩:=IG (A:=X.A.in1) hh I hy t2 (hf i2 (by simp)).1;obtain⟨fp3,P3,S3,D3,u3,r3,a3,_,g3⟩:=IG (A:=X.A.in1) hh I hu t3 (hf i3 (by simp)).1;have ZA:=pV I Z hf g1 g2 g3;have ch:∀b∈[z,TO,i1,i2,i3],b∈[z,TI,TO,i1,i2,i3]:=fun b hb=>by
   simp only[CW,DE,or_false]at hb ⊢;rcases hb with h|h|h|h|h<;>simp[h]
  refine tG hh D1 D2 D3 ZA hend hz hI hO u1 u2 u3 fun h2 tk kp=>⟨rfl,?_⟩
  have kp2:∀b o,b∉[z,TO,i1,i2,i3]->s.heap.get? b=some o->h2.get? b=some o:=fun b o hb e=>by
   simp only[CW,DE,or_false,not_or]at hb;exact kp b o hb.1 hb.2.1 hb.2.2.1 hb.2.2.2.1 hb.2.2.2.2 e
  refine I.step (g':=s.gens) (d':=s.drawn) (t':=tk) (ch:=[z,TO,i1,i2,i3]) (fun b hb=>⟨(hf b<|ch b hb).2.2.2.1,(hf b<|ch b hb).2.1,(hf b<|ch b hb).2.2.2.2.1,(hf b<|ch b hb).2.2.2.2.2⟩) (fun b o _ _ hb e _=>kp2 b o hb e) (fun b o _ _ hb e _=>⟨o.slots,kp2 b o hb e⟩)
   (fun b o hb e n=>n) (fun b o hb e=>⟨o,kp2 b o hb e⟩) (fun b xs e=>e) (fun b o u e=>e) (fun b ps e=>⟨#[],by rw[e];simp⟩) (fun m hm=>?_) (fun b u e=>?_) I.bare
  ·obtain⟨o,es,ep,ho,r⟩:=hm;exact⟨o,es,ep,kp2 _ o (fun hb=>(hf _<|ch _ hb).2.1 rfl) ho,r⟩
  ·have gm:∀b u,H b=some u->b∉[z,TO,i1,i2,i3]:=fun b u e hb=>by rw[(hf b<|ch b hb).1]at e;cases e
   refine(I.hok b u e).stay (fun c v hc q=>kp2 c v ?_ q) (fun c q=>q) fun c xs q=>q;rcases hc with q|q
   ·rw[q];exact gm b u e
   ·exact gm c _ q
 self:=fun _ _ _ _ _ st h=>H9 st.1 h
theorem Ab{x y z:V}{us:List CD}(r:Vals [x,y,z] us):∃u v w',us=[u,v,w']/\RelV x u/\RelV y v/\RelV z w':=by
 cases r with
 |cons h1 r=>cases r with
  |cons h2 r=>cases r with
   |cons h3 r=>cases r;exact⟨_,_,_,rfl,h1,h2,h3⟩
def xS(K:CF)(t:TA):TI:=fun σ H R=>t σ H fun vs H1=>∃c1 c2 c3 xs ys us,vs=[c1.val,c2.val,c3.val]/\c1.has K H1 xs/\c2.has K H1 ys/\c3.has K H1 us/\R (Aa K c1 c2 c3) H1
theorem wd{X:Cx}{K:CF}(hK:X.K=K){a b c:Expr}{ta:TA}{p pos tp:Pos}{elts:List Expr}{kk:Nat}(hg:Gl X "zip")(hm:X.mg "zip"=none)(ha:PA X [a,b,c] ta)
  (hs:starEach [a,b,c] X.env=[(false,eval a X.env),(false,eval b X.env),(false,eval c X.env)]:=by rfl) (hs2:starEach [b,c] X.env=[(false,eval b X.env),(false,eval c X.env)]:=by rfl):PI X (.Tuple elts kk tp) (.Call (.Name "zip" p) [a,b,c] [] pos) (xS K ta):=by
 subst hK;intro pins s σ H R I h;refine Mt (fh I hg hm boot_zip (E7 (bF (ha pos pins s σ H _ I h) fun us s1⟨vs,H1,I1,r1,q1⟩=>?_) (by rw[hs,hs2]) (by rw[hs2];rfl)));obtain⟨c1,c2,c3,xs,ys,zs,e,h1,h2,h3,q⟩:=q1;subst e;obtain⟨v1,v2,v3,rfl,ra,rb,rc⟩:=Ab r1;obtain⟨o1,i1,f1,n1⟩:=MD I1 h1 ra fun _ _ e=>e;obtain⟨o2,i2,f2,n2⟩:=MD (h:=s1.heap.push o1) I1 h2 rb fun _ _ e=>CB _ e;obtain⟨o3,i3,f3,n3⟩:=MD (h:=(s1.heap.push o1).push o2) I1 h3 rc fun _ _ e=>CB _<|CB _ e;have z1:(s1.heap.push o1).objs.size=s1.heap.objs.size+1:=DJ ..;have z2:((s1.heap.push o1).push o2).objs.size=s1.heap.objs.size+2:=by rw[DJ,z1]
 rw[z1]at n2;rw[z2]at n3;refine rk i1 i2 i3 f1 f2 f3 fun h' hz hI hO e1 e2 e3 kp=>?_;refine H9 hz ?_;have zi:∀n:Nat,ZIds3 (n+5) (n+3) (n+4) n (n+1) (n+2):=fun n=>⟨(iR n 3 5 (by decide)),(iR n 4 5 (by decide)),(iR n 0 5 (by decide)),(iR n 1 5 (by decide)),(iR n 2 5 (by decide)),(iR n 3 4 (by decide)),(iR n 3 0 (by decide)),(iR n 3 1 (by decide)),(iR n 3 2 (by decide)),(iR n 4 0 (by decide)),(iR n 4 1 (by decide)),(iR n 4 2 (by decide)),(iR n 0 1 (by decide)),(iR n 0 2 (by decide)),(iR n 1 2 (by decide))⟩
 refine⟨s1.heap.objs.size+5,[s1.heap.objs.size+5,s1.heap.objs.size+3,s1.heap.objs.size+4,s1.heap.objs.size,s1.heap.objs.size+1,s1.heap.objs.size+2],_,_,H1,rfl,I1.kept (t':=s1.toks) kp,rm c1 c2 c3 _ _ _ _ _ _<|zi s1.heap.objs.size,⟨hz,hI,⟨_,_,_,hO⟩,n1 h' e1,n2 h' e2,n3 h' e3⟩,fun b hb=>?_,q⟩;have hb':s1.heap.objs.size<=b:=by
  simp only[CW,DE,or_false]at hb;rcases hb with z|z|z|z|z|z<;>rw[z]
  ·exact Ex _ 5
  ·exact Ex _ 3
  ·exact Ex _ 4
  ·exact CU _
  ·exact Ex _ 1
  ·exact Ex _ 2
 exact I1.fpOk hb'<|I1.hok.fresh hb'
end L2
namespace Mi
inductive Res(α:Type) where
 |ok (a:α)|err (j:Nat)|stuck
namespace Res
variable{α β:Type}
def Ok(m:Res α)(P:α->Prop):Prop:=match m with| .ok a=>P a|_=>False
def bind(m:Res α)(f:α->Res β):Res β:=match m with| .ok a=>f a| .err j=>.err j| .stuck=>.stuck
theorem bind_ok{m:Res α}{f:α->Res β}{P:β->Prop}(h:m.Ok fun a=>(f a).Ok P):(m.bind f).Ok P:=by cases m<;>exact h
theorem Ok.imp{m:Res α}{P Q:α->Prop}(h:m.Ok P)(k:∀a,P a->Q a):m.Ok Q:=by cases m<;>first|exact k _ h|exact h
theorem Ok.ex{m:Res α}{P:α->Prop}(h:m.Ok P):∃a,m=.ok a/\P a:=by
 cases m with
 |ok a=>exact⟨a,rfl,h⟩
 |err j=>exact h.elim
 |stuck=>exact h.elim
def OkE(m:Res α)(Er:Nat->Prop)(P:α->Prop):Prop:=match m with| .ok a=>P a| .err j=>Er j| .stuck=>False
theorem okE_bind{m:Res α}{f:α->Res β}{Er:Nat->Prop}{P:β->Prop}(h:(m.bind f).OkE Er P):m.OkE Er fun a=>(f a).OkE Er P:=by cases m<;>exact h
theorem OkE.imp{m:Res α}{Er:Nat->Prop}{P Q:α->Prop}(h:m.OkE Er P)(k:∀a,P a->Q a):m.OkE Er Q:=by cases m<;>first|exact k _ h|exact h
theorem Ok.e{m:Res α}{Er:Nat->Prop}{P:α->Prop}(h:m.Ok P):m.OkE Er P:=by
 cases m with
 |ok a=>exact h
 |err j=>exact h.elim
 |stuck=>exact h.elim
def tryR(m:Res α):Res (α ⊕ Nat):=match m with| .ok a=>.ok (.inl a)| .err j=>.ok (.inr j)| .stuck=>.stuck
theorem tryR_OkE{m:Res α}{Er:Nat->Prop}{P:α ⊕ Nat->Prop}(h:(tryR m).OkE Er P):m.OkE (fun j=>P<|.inr j) fun a=>P (.inl a):=by cases m<;>exact h
@[simp] theorem bind_ok'(a:α)(f:α->Res β):(Res.ok a).bind f=f a:=rfl
end Res
abbrev cap:Nat:=100000
def dQ(b:Prop)[Decidable b]{α:Type}(a:α):Res α:=if b then .ok a else .stuck
theorem bq{b:Prop}[Decidable b]{α:Type}{a:α}(h:b):dQ b a=.ok a:=if_pos h
theorem aW{b:Prop}[Decidable b]{α:Type}{a:α}{Er:Nat->Prop}{P:α->Prop}(h:(dQ b a).OkE Er P):b/\P a:=by
 unfold dQ at h;by_cases hb:b;·rw[if_pos hb]at h;exact⟨hb,h⟩
 ·rw[if_neg hb]at h;exact h.elim
def yz{α:Type}:Option α->Res α
 |some a=>.ok a
 |none=>.stuck
theorem fz{α:Type}{o:Option α}{Er:Nat->Prop}{P:α->Prop}(h:(yz o).OkE Er P):∃a,o=some a/\P a:=by
 cases o with
 |none=>exact h.elim
 |some a=>exact⟨a,rfl,h⟩
abbrev Tx:=List Nat
def eE(i:Int):Int:=if i<0 then -i else i
def jA(i j:Int):Res Int:=dQ ((-(2^64)<i/\i<2^64)\/(-(2^64)<j/\j<2^64))<|i*j
def jB(i j:Int):Res Int:=dQ (0<j/\j<1073741824)<|i/j
def kO(i j:Int):Res Int:=dQ (0<j)<|i%j
def ixN(n:Nat)(i:Int):Option Nat:=if 0<=i then(if i<n then some i.toNat else none)else if -(n:Int)<=i then some (i+n).toNat else none
def sD{α:Type}(xs:List α)(i:Int):Option α:=(ixN xs.length i).bind fun j=>xs[j]?
theorem pW{α:Type}{xs:List α}{j:Nat}{v:α}(h:xs[j]? =some v):sD xs (j:Int)=some v:=by
 have hl:j<xs.length:=(CL.mp h).1;unfold sD ixN;rw[if_pos (by omega),if_pos (by omega),DY];exact h
theorem tH{α:Type}{xs:List α}{i:Int}(h0:0<=i)(h1:i<xs.length):∃h:i.toNat<xs.length,sD xs i=some xs[i.toNat]:=by
 have h2:i.toNat<xs.length:=by omega
 refine⟨h2,?_⟩;have:=pW (xs:=xs) (j:=i.toNat) (v:=xs[i.toNat]) (by simp[h2]);rw[Int.toNat_of_nonneg h0]at this;exact this
def fA{α:Type}(xs:List α)(i:Int):Res α:=yz<|sD xs i
def fS(x:Tx)(i:Int):Res Tx:=(dQ (x.length<=cap) x).bind fun x=>(yz<|sD x i).bind fun c=>.ok [c]
def fB(a b:Tx):Res Tx:=dQ (a.length+b.length<=cap)<|a++b
def yA{α:Type}(a b:List α):Res (List α):=dQ (a.length+b.length<=cap)<|a++b
def iC{α:Type}(a:List α)(x:α):Res (List α):=dQ (a.length<cap)<|a++[x]
def yB(a:Tx)(n:Int):Res Tx:=match a with
 | [c]=>dQ (0<=n/\n<=cap)<|ES n.toNat c
 |_=>.stuck
def yC(x:Tx):Res Int:=dQ (x.length<=cap) (x.length:Int)
def sIx(n d:Nat):Option Int->Nat
 |none=>d
 |some v=>if v<0 then(v+(n:Int)).toNat else min v.toNat n
def cut{α:Type}(l:List α)(lo hi:Option Int):List α:=(l.drop<|sIx l.length 0 lo).take (sIx l.length l.length hi-sIx l.length 0 lo)
def rn(x:Tx)(lo hi:Option Int):Res Tx:=dQ (x.length<=cap)<|cut x lo hi
def n6{α:Type}(xs:List α)(i:Int)(x:α):Res (List α):=(yz<|ixN xs.length i).bind fun j=>.ok<|xs.set j x
def tI(x:Tx)(c:Nat):Option Nat:=x.findIdx? (· ==c)
def j5(x y:Tx):Res Int:=match y with
 | [c]=>(yz<|tI x c).bind fun j=>.ok (j:Int)
 |_=>.stuck
def n9(xs:List Tx):Res Tx:=dQ (xs.flatten.length<=cap) xs.flatten
def look{κ α:Type}[DecidableEq κ](kvs:List (κ×α))(k:κ):Option α:=(kvs.find? fun p=>decide<|p.1=k).map (·.2)
def getD{κ α:Type}[DecidableEq κ](kvs:List (κ×α))(k:κ):Res α:=yz<|look kvs k
def jC{α β:Type}(f:α->Res β):List α->Res (List β)
 | []=>.ok []
 |a::r=>(f a).bind fun b=>(jC f r).bind fun bs=>.ok (b::bs)
def fb{α β:Type}(xs:List α)(f:α->Res β):Res (List β):=(dQ (xs.length<=cap) xs).bind fun xs=>jC f xs
def hU{α β:Type}(f:α->Res (Option β)):List α->Res (List β)
 | []=>.ok []
 |a::r=>(f a).bind fun b=>(hU f r).bind fun bs=>.ok (match b with|some b=>b::bs|none=>bs)
def jD{α β:Type}(xs:List α)(f:α->Res (Option β)):Res (List β):=(dQ (xs.length<=cap) xs).bind fun xs=>hU f xs
def bR{α S:Type}(f:α->S->Res S):List α->S->Res S
 | [],s=>.ok s
 |a::r,s=>(f a s).bind fun s=>bR f r s
inductive Fl(γ S:Type) where
 |nx (s:S)|bk (s:S)|rt (r:γ)
def tJ{S γ:Type}(k:S->Res (Fl γ S)):Fl γ S->Res (Fl γ S)
 | .nx s=>k s
 | .bk s=>.ok<|.nx s
 | .rt x=>.ok<|.rt x
def dO{α S γ:Type}(f:α->S->Res (Fl γ S)):List α->S->Res (Fl γ S)
 | [],s=>.ok<|.nx s
 |a::r,s=>(f a s).bind (tJ<|dO f r)
def eY(n:Int):List Int:=(DP n.toNat).map fun(i:Nat)=>(i:Int)
def fC(n:Int):Res (List Int):=dQ (-(2^62)<=n/\n<2^62)<|eY n
def fM{α:Type}(xs:List α):List (Int×α):=(DP xs.length).zipWith (fun(i:Nat)x=>((i:Int),x)) xs
def bH(x:Tx):List Tx:=x.map fun c=>[c]
def iD(xs:List Int):List Int:=xs.mergeSort fun a b=>decide<|a<=b
theorem iS(xs:List Int):(iD xs).Perm xs:=JC _ _
theorem lh(xs:List Int):(iD xs).Pairwise (· <= ·):=by
 have:=Iw (le:=fun a b:Int=>decide<|a<=b) (fun a b c h1 h2=>by simp at *;omega) (fun a b=>by simp;omega) xs;exact this.imp fun h=>by simpa using h
theorem rp{xs ys:List Int}(h:ys.Perm xs)(hs:ys.Pairwise (· <= ·)):ys=iD xs:=
 Ij (le:=(· <= ·)) (fun a b _ _ h1 h2=>by omega) hs (lh xs) (h.trans (iS xs).symm)
def tK(xs:List Int):Res (List Int):=dQ (xs.length<64)<|iD xs
def Ac{α:Type}[DecidableEq α](a b:α):Res Bool:=if a=b then .ok true else .stuck
def yD{α:Type}:List α->Res (α×α×α)
 | [a,b,c]=>.ok (a,b,c)
 |_=>.stuck
theorem pX{α β:Type}{f:α->Res β}{g:α->β}:∀{xs:List α},(∀x∈xs,f x=.ok (g x))->jC f xs=.ok (xs.map g)
 | [],_=>rfl
 |a::r,h=>by
  unfold jC;rw[h a<|CZ ..,Res.bind_ok',pX fun x hx=>h x<|D7 _ hx];rfl
theorem fc{α β:Type}{f:α->Res β}{g:α->β}{xs:List α}(hl:xs.length<=cap)(h:∀x∈xs,f x=.ok (g x)):fb xs f=.ok (xs.map g):=by
 unfold fb;rw[bq hl,Res.bind_ok',pX h]
end Mi
open Mi.Res renaming okE_bind->CA,bind_ok'->CC,ok->CK,stuck->IH
open Mi.Res.Ok renaming imp->Hc
open Mi.Res.OkE renaming imp->DF
namespace Wb
open PySem L2 Mi
variable{Er:Nat->Prop}
structure Wd where
 G:Hp
 H:Hp
 ok:Same G H
structure Ext(W W':Wd):Prop where
 g:Same W.G W'.G
 h:Same W.H W'.H
 k:∀p,W.H p≠none->W'.G p=W.G p
theorem Ext.refl(W:Wd):Ext W W:=⟨.refl _,.refl _,fun _ _=>rfl⟩
theorem Ext.trans{W W1 W2:Wd}(a:Ext W W1)(b:Ext W1 W2):Ext W W2:=⟨a.g.trans b.g,a.h.trans b.h,fun p hp=>by
 obtain⟨o,ho⟩:=HF.mp hp;rw[b.k p (by rw[a.h p o ho];exact fun z=>nomatch z),a.k p hp]⟩
theorem Same.upd2{G H:Hp}(h:Same G H)(p:Addr)(o:HO):Same (cI G p o) (cI H p o):=fun a u e=>by
 by_cases z:a=p;·subst z;rw[aG]at e ⊢;exact e
 ·rw[ax z]at e ⊢;exact h _ _ e
def Wd.new(W:Wd)(p:Addr)(o:HO):Wd:=⟨cI W.G p o,cI W.H p o,Same.upd2 W.ok p o⟩
theorem Wd.gnone(W:Wd){p:Addr}(h:W.H p=none):W.G p=none:=bg W.ok h
theorem Ext.new{W:Wd}{p:Addr}(o:HO)(h:W.H p=none):Ext W (W.new p o):=⟨cN<|W.gnone h,cN h,fun q hq=>ax fun z=>hq<|z▸h⟩
def Wd.mut(W:Wd)(p:Addr)(o:HO)(h:W.G p=none):Wd:=⟨W.G,cI W.H p o,rh W.ok h⟩
theorem Ext.own{W:Wd}{p:Addr}(o:HO)(h:W.H p=none):Ext W (W.mut p o<|W.gnone h):=⟨.refl _,cN h,fun _ _=>rfl⟩
def Wd.frz(W:Wd)(p:Addr)(o:HO)(h:W.H p=some o):Wd:=⟨cI W.G p o,W.H,fun a u e=>by
 by_cases z:a=p;·subst z;rw[aG]at e;cases e;exact h
 ·rw[ax z]at e;exact W.ok _ _ e⟩
theorem Ext.mut{W0 W:Wd}{p:Addr}{o:HO}(e:Ext W0 W)(hp:W0.H p=none)(h:W.G p=none):Ext W0 (W.mut p o h):=
 ⟨e.g,fun a u z=>by show cI W.H p o a=_;rw[ax<|cg z hp];exact e.h _ _ z,e.k⟩
theorem Ext.frz{W0 W:Wd}{p:Addr}{o:HO}(e:Ext W0 W)(hp:W0.H p=none)(h:W.H p=some o)(hg:W.G p=none):Ext W0 (W.frz p o h):=
 ⟨e.g.trans<|cN hg,e.h,fun q hq=>by show cI W.G p o q=_;rw[ax (fun z=>hq (by rw[z];exact hp))];exact e.k q hq⟩
abbrev Rw(α:Type):=Wd->α->V->Prop
class MonoW{α:Type}(R:Rw α):Prop where
 mono:∀{W W':Wd}{a:α}{v:V},Ext W W'->R W a v->R W' a v
def sh{α:Type}(R:Rp α):Rw α:=fun W a v=>R W.G a v
instance zkeep8{α:Type}{R:Rp α}[Mono R]:MonoW (sh R):=⟨fun e h=>Cz (R:=R) e.g h⟩
def pk{α:Type}(R:Rp α):Rw (List α):=fun W xs v=>∃p vs,v=.ref p/\W.H p=some (.lst vs)/\LR R W.G xs vs
instance zkeep9{α:Type}{R:Rp α}[Mono R]:MonoW (pk R):=⟨fun e⟨p,vs,a,b,c⟩=>⟨p,vs,a,e.h _ _ b,c.same e.g⟩⟩
theorem pk.of{α:Type}{R:Rp α}{W:Wd}{xs:List α}{v:V}(h:isL R W.G xs v):pk R W xs v:=by
 obtain⟨p,vs,a,b,c⟩:=h;exact⟨p,vs,a,W.ok _ _ b,c⟩
structure Ow{α:Type}(R:Rp α)(W:Wd)(p:Addr)(xs:List α):Prop where
 g:W.G p=none
 h:∃vs,W.H p=some (.lst vs)/\LR R W.G xs vs
theorem Ow.mono{α:Type}{R:Rp α}[Mono R]{W W':Wd}{p:Addr}{xs:List α}(o:Ow R W p xs)(e:Ext W W'):Ow R W' p xs:=by
 obtain⟨vs,a,b⟩:=o.h;exact⟨by rw[e.k p (by rw[a];exact fun z=>nomatch z)];exact o.g,vs,e.h _ _ a,b.same e.g⟩
theorem Ow.pk{α:Type}{R:Rp α}{W:Wd}{p:Addr}{xs:List α}(o:Ow R W p xs):pk R W xs (.ref p):=by
 obtain⟨vs,a,b⟩:=o.h;exact⟨p,vs,rfl,a,b⟩
theorem Ow.frz{α:Type}{R:Rp α}[Mono R]{W0 W:Wd}{p:Addr}{xs:List α}(o:Ow R W p xs)(e:Ext W0 W)(hp:W0.H p=none):
  ∃W',W'.H=W.H/\Ext W0 W'/\Same W.G W'.G/\isL R W'.G xs (.ref p)/\∀q,q≠p->W'.G q=W.G q:=by
 obtain⟨vs,a,b⟩:=o.h;exact⟨W.frz p _ a,rfl,e.frz hp a o.g,cN o.g,⟨p,vs,rfl,aG,b.same<|cN o.g⟩,fun q hq=>ax hq⟩
theorem Ow.keep{α:Type}{R:Rp α}[Mono R]{W W':Wd}{q:Addr}{xs:List α}(o:Ow R W q xs)(hH:W'.H q=W.H q)(hs:Same W.G W'.G)(hg:W'.G q=W.G q):Ow R W' q xs:=by
 obtain⟨vs,a,b⟩:=o.h;exact⟨by rw[hg];exact o.g,vs,by rw[hH];exact a,b.same hs⟩
def EV(Er:Nat->Prop){α:Type}(t:TE)(σ:St)(W:Wd)(R:Rw α)(m:Res α):Prop:=∀W1,Ext W W1->∀Q:VK,m.OkE Er (fun a=>∀v W2,Ext W1 W2->R W2 a v->Q v W2.H)->t σ W1.H Q
def EVo(Er:Nat->Prop){α:Type}(t:TE)(σ:St)(W:Wd)(R:Rp α)(m:Res (List α)):Prop:=∀W1,Ext W W1->∀Q:VK,m.OkE Er (fun xs=>∀p W2,Ext W1 W2->W1.H p=none->Ow R W2 p xs->Q (.ref p) W2.H)->t σ W1.H Q
def TV(Er:Nat->Prop)(t:TT)(σ:St)(W:Wd)(m:Res Bool):Prop:=∀W1,Ext W W1->∀Q:Bool->Hp->Prop,m.OkE Er (fun b=>∀W2,Ext W1 W2->Q b W2.H)->t σ W1.H Q
section
variable{α β γ:Type}{t ta tb:TE}{σ:St}{W W0 W':Wd}{K:CF}
theorem EV.imp{R R':Rw α}{m:Res α}(h:EV Er t σ W R m)(f:∀W a v,R W a v->R' W a v):EV Er t σ W R' m:=fun W1 e1 Q k=>h W1 e1 Q<|k.imp fun a ka v W2 e2 r=>ka v W2 e2<|f _ _ _ r
theorem EVo.ev{R:Rp α}[Mono R]{m:Res (List α)}(h:EVo Er t σ W R m):EV Er t σ W (sh<|isL R) m:=fun W1 e1 Q k=>h W1 e1 Q (k.imp fun xs kx p W2 e2 hp o=>by
 obtain⟨W3,hH,e3,_,r,_⟩:=o.frz e2 hp;rw[<-hH];exact kx (.ref p) W3 e3 r)
theorem EVo.pk{R:Rp α}[Mono R]{m:Res (List α)}(h:EVo Er t σ W R m):EV Er t σ W (pk R) m:=fun W1 e1 Q k=>h W1 e1 Q<|k.imp fun xs kx p W2 e2 hp o=>kx (.ref p) W2 e2 o.pk
theorem EV.pk{R:Rp α}{m:Res (List α)}(h:EV Er t σ W (sh<|isL R) m):EV Er t σ W (pk R) m:=h.imp fun _ _ _ r=>pk.of r
theorem d4{R:Rw α}[MonoW R]{i:Nat}{v:V}{a:α}(r:R W a v)(h:σ[i]? =some (some v):=by rfl):EV Er (bL i) σ W R (.ok a):=fun W1 e1 Q k=>⟨v,h,k v W1 (.refl _)<|MonoW.mono e1 r⟩
theorem eP{R:Rp α}[Mono R]{i:Nat}{p:Addr}{a:List α}(r:Ow R W p a)(h:σ[i]? =some (some<|.ref p):=by rfl):EV Er (bL i) σ W (pk R) (.ok a):=d4 r.pk h
def isB:Rp Bool:=fun _ b v=>v=.bl b
instance zkeep10:Mono isB:=⟨fun _ h=>h⟩
theorem ah{i:Int}:EV Er (tC<|.int i) σ W (sh isI) (.ok i):=fun W1 _ Q k=>k _ W1 (.refl _) rfl
theorem aE{x:Str}{l:Tx}(h:x=sOf l):EV Er (tC<|.str x) σ W (sh isS) (.ok l):=fun W1 _ Q k=>k _ W1 (.refl _) (by rw[h];rfl)
theorem gF{b:Bool}:EV Er (tC<|.bl b) σ W (sh isB) (.ok b):=fun W1 _ Q k=>k _ W1 (.refl _) rfl
theorem rq{r:R2}{Ra:Rw α}[MonoW Ra]{Rb:Rw β}{R:Rw γ}{ma:Res α}{mb:Res β}{f:α->β->Res γ}(ha:EV Er ta σ W Ra ma)(hb:EV Er tb σ W Rb mb)
  (h:∀W a b x y Q,Ra W a x->Rb W b y->(f a b).OkE Er (fun c=>∀v W2,Ext W W2->R W2 c v->Q v W2.H)->r x y W.H Q):EV Er (df r ta tb) σ W R (ma.bind fun a=>mb.bind fun b=>f a b):=fun W1 e1 Q k=>by
 refine ha W1 e1 _<|(CA k).imp fun a ka x W2 e2 hx=>?_;refine hb W2 (e1.trans e2) _<|(CA ka).imp fun b kb y W3 e3 hy=>?_;exact h W3 a b x y Q (MonoW.mono e3 hx) hy<|kb.imp fun c kc v W4 e4 hv=>kc v W4 ((e2.trans e3).trans e4) hv
theorem BU{r:V->Hp->VK->Prop}{Ra:Rw α}{R:Rw γ}{ma:Res α}{f:α->Res γ}(ha:EV Er ta σ W Ra ma)
  (h:∀W a x Q,Ra W a x->(f a).OkE Er (fun c=>∀v W2,Ext W W2->R W2 c v->Q v W2.H)->r x W.H Q):EV Er (ft r ta) σ W R (ma.bind f):=fun W1 e1 Q k=>by
 refine ha W1 e1 _<|(CA k).imp fun a ka x W2 e2 hx=>?_;exact h W2 a x Q hx<|ka.imp fun c kc v W4 e4 hv=>kc v W4 (e2.trans e4) hv
section
variable{ma mb:Res Int}
theorem ba{g:Int->Int->Int}(ha:EV Er ta σ W (sh isI) ma)(hb:EV Er tb σ W (sh isI) mb):EV Er (df (eM fun i j=>.int<|g i j) ta tb) σ W (sh isI) (ma.bind fun a=>mb.bind fun b=>.ok<|g a b):=
 rq ha hb fun W a b x y Q hx hy k=>by cases hx;cases hy;exact⟨a,b,rfl,rfl,k _ W (.refl _) rfl⟩
theorem tL{C:Int->Int->Prop}{g:Int->Int->Int}{f:Int->Int->Res Int}(hf:∀a b P,(f a b).OkE Er P->C a b/\P (g a b))(ha:EV Er ta σ W (sh isI) ma)(hb:EV Er tb σ W (sh isI) mb):
  EV Er (df (rI C fun i j=>.int<|g i j) ta tb) σ W (sh isI) (ma.bind fun a=>mb.bind fun b=>f a b):=
 rq ha hb fun W a b x y Q hx hy k=>by cases hx;cases hy;exact⟨a,b,rfl,rfl,(hf a b _ k).1,(hf a b _ k).2 _ W (.refl _) rfl⟩
theorem jE(ha:EV Er ta σ W (sh isI) ma)(hb:EV Er tb σ W (sh isI) mb):EV Er (df (rI CMul fun i j=>.int<|i*j) ta tb) σ W (sh isI) (ma.bind fun a=>mb.bind fun b=>jA a b):=tL (fun a b P h=>by unfold jA at h;obtain⟨h1,h2⟩:=aW h;exact⟨h1,h2⟩) ha hb
theorem pY(ha:EV Er ta σ W (sh isI) ma)(hb:EV Er tb σ W (sh isI) mb):EV Er (df (rI zY fun i j=>.int<|i/j) ta tb) σ W (sh isI) (ma.bind fun a=>mb.bind fun b=>jB a b):=tL (fun a b P h=>by unfold jB at h;obtain⟨h1,h2⟩:=aW h;exact⟨h1,h2⟩) ha hb
theorem jF(ha:EV Er ta σ W (sh isI) ma)(hb:EV Er tb σ W (sh isI) mb):EV Er (df (rI (fun _ j=>0<j) fun i j=>.int<|i%j) ta tb) σ W (sh isI) (ma.bind fun a=>mb.bind fun b=>kO a b):=tL (fun a b P h=>by unfold kO at h;obtain⟨h1,h2⟩:=aW h;exact⟨h1,h2⟩) ha hb
theorem aA{C:Int->Int->Prop}{g:Int->Int->Int}{n:Int}(hn:∀a,C a n)(ha:EV Er ta σ W (sh isI) ma):EV Er (df (rI C fun i j=>.int<|g i j) ta<|tC<|.int n) σ W (sh isI) (ma.bind fun a=>.ok<|g a n):=
 fun W1 e1 Q k=>ha W1 e1 _ ((CA k).imp fun a ka x W2 e2 hx=>by cases hx;exact⟨a,n,rfl,rfl,hn a,ka _ W2 e2 rfl⟩)
end
end
end Wb
open Wb.EV renaming pk->FC
open Wb.EVo renaming ev->Ey,pk->Gh
open Wb.Ext renaming new->Gg
open Wb.MonoW renaming mono->Dv
namespace Wb
open PySem L2 Mi
variable{Er:Nat->Prop}
section
variable{α β γ δ:Type}{t ta tb tc:TE}{σ:St}{W W0 W':Wd}{K:CF}
theorem lY{n:Nat}(h:n<=cap):n<=sizeLine:=by rw[E6];unfold cap at h;omega
section
variable{ma mb:Res Int}
theorem jG(ha:EV Er ta σ W (sh isI) ma):EV Er (ft (rU fun i=>.int<|-i) ta) σ W (sh isI) (ma.bind fun a=>.ok<|-a):=
 BU ha fun W a x Q hx k=>by cases hx;exact⟨a,rfl,k _ W (.refl _) rfl⟩
theorem d5{g:Int->Int->Bool}(ha:EV Er ta σ W (sh isI) ma)(hb:EV Er tb σ W (sh isI) mb):EV Er (df (eM fun i j=>.bl<|g i j) ta tb) σ W (sh isB) (ma.bind fun a=>mb.bind fun b=>.ok<|g a b):=
 rq ha hb fun W a b x y Q hx hy k=>by cases hx;cases hy;exact⟨a,b,rfl,rfl,k _ W (.refl _) rfl⟩
end
theorem dI{a b:Int}:decide (FO a=FO b)=decide (a=b):=by rw[Fw];simp
theorem dS{a b:Tx}:decide (GW (sOf a)=GW (sOf b))=decide (a=b):=by
 rw[Fw,decide_eq_true_eq,decide_eq_true_eq];exact⟨fun h=>pS<|GW.inj h,fun h=>by rw[h]⟩
theorem eZ{ma mb:Res Int}(ha:EV Er ta σ W (sh isI) ma)(hb:EV Er tb σ W (sh isI) mb):EV Er (df fJ ta tb) σ W (sh isB) (ma.bind fun a=>mb.bind fun b=>.ok<|decide<|a=b):=
 rq ha hb fun W a b x y Q hx hy k=>by cases hx;cases hy;exact⟨rfl,by rw[dI];exact k _ W (.refl _) rfl⟩
theorem gO{ma mb:Res Tx}(ha:EV Er ta σ W (sh isS) ma)(hb:EV Er tb σ W (sh isS) mb):EV Er (df fJ ta tb) σ W (sh isB) (ma.bind fun a=>mb.bind fun b=>.ok<|decide<|a=b):=
 rq ha hb fun W a b x y Q hx hy k=>by cases hx;cases hy;exact⟨rfl,by rw[dS];exact k _ W (.refl _) rfl⟩
theorem yE{ma mb:Res Int}(ha:EV Er ta σ W (sh isI) ma)(hb:EV Er tb σ W (sh isI) mb):EV Er (df fK ta tb) σ W (sh isB) (ma.bind fun a=>mb.bind fun b=>.ok<|!decide (a=b)):=
 rq ha hb fun W a b x y Q hx hy k=>by cases hx;cases hy;exact⟨rfl,by rw[dI];exact k _ W (.refl _) rfl⟩
theorem jH{ma mb:Res Tx}(ha:EV Er ta σ W (sh isS) ma)(hb:EV Er tb σ W (sh isS) mb):EV Er (df fK ta tb) σ W (sh isB) (ma.bind fun a=>mb.bind fun b=>.ok<|!decide (a=b)):=
 rq ha hb fun W a b x y Q hx hy k=>by cases hx;cases hy;exact⟨rfl,by rw[dS];exact k _ W (.refl _) rfl⟩
theorem aM{m:Res Bool}(h:EV Er t σ W (sh isB) m):TV Er (bC t) σ W m:=fun W1 e1 Q k=>h W1 e1 _<|k.imp fun b kb v W2 e2 hv=>⟨b,hv,kb W2 e2⟩
theorem kP{m:Res Bool}(h:EV Er t σ W (sh isB) m):TV Er (tB t) σ W m:=fun W1 e1 Q k=>h W1 e1 _<|k.imp fun b kb v W2 e2 hv=>⟨b,hv,kb W2 e2⟩
theorem lZ{t:TT}{m:Res Bool}(h:TV Er t σ W m):TV Er (cC t) σ W (m.bind fun b=>.ok<|!b):=fun W1 e1 Q k=>h W1 e1 _<|(CA k).imp fun b kb W2 e2=>kb W2 e2
theorem gP{t u:TT}{m n:Res Bool}(h:TV Er t σ W m)(g:TV Er u σ W n):TV Er (cB t u) σ W (m.bind fun b=>if b then n else .ok false):=fun W1 e1 Q k=>h W1 e1 _ ((CA k).imp fun b kb W2 e2=>by
 cases b with
 |true=>exact g W2 (e1.trans e2) _ (kb.imp fun c kc W3 e3=>kc W3<|e2.trans e3)
 |false=>exact kb W2 e2)
theorem tM{t u:TT}{m n:Res Bool}(h:TV Er t σ W m)(g:TV Er u σ W n):TV Er (fP t u) σ W (m.bind fun b=>if b then .ok true else n):=fun W1 e1 Q k=>h W1 e1 _ ((CA k).imp fun b kb W2 e2=>by
 cases b with
 |true=>exact kb W2 e2
 |false=>exact g W2 (e1.trans e2) _ (kb.imp fun c kc W3 e3=>kc W3 (e2.trans e3)))
theorem yF{m n:Res Bool}(h:EV Er ta σ W (sh isB) m)(g:EV Er tb σ W (sh isB) n):EV Er (bA ta tb) σ W (sh isB) (m.bind fun b=>if b then n else .ok false):=fun W1 e1 Q k=>h W1 e1 _ ((CA k).imp fun b kb v W2 e2 hv=>⟨b,hv,by
 cases b with
 |true=>exact g W2 (e1.trans e2) _ (kb.imp fun c kc v W3 e3 hv=>kc v W3 (e2.trans e3) hv)
 |false=>exact kb _ W2 e2 rfl⟩)
theorem Ad{m n:Res Bool}(h:EV Er ta σ W (sh isB) m)(g:EV Er tb σ W (sh isB) n):EV Er (cD ta tb) σ W (sh isB) (m.bind fun b=>if b then .ok true else n):=fun W1 e1 Q k=>h W1 e1 _ ((CA k).imp fun b kb v W2 e2 hv=>⟨b,hv,by
 cases b with
 |true=>exact kb _ W2 e2 rfl
 |false=>exact g W2 (e1.trans e2) _ (kb.imp fun c kc v W3 e3 hv=>kc v W3 (e2.trans e3) hv)⟩)
theorem tN{m:Res Bool}(h:EV Er ta σ W (sh isB) m):EV Er (bB ta) σ W (sh isB) (m.bind fun b=>.ok<|!b):=fun W1 e1 Q k=>h W1 e1 _<|(CA k).imp fun b kb v W2 e2 hv=>⟨b,hv,kb _ W2 e2 rfl⟩
theorem ng{R:Rw α}{c:TT}{mc:Res Bool}{m n:Res α}(hc:TV Er c σ W mc)(h:EV Er ta σ W R m)(g:EV Er tb σ W R n):EV Er (fQ c ta tb) σ W R (mc.bind fun b=>if b then m else n):=fun W1 e1 Q k=>hc W1 e1 _ ((CA k).imp fun b kb W2 e2=>by
 cases b with
 |true=>exact h W2 (e1.trans e2) _ (kb.imp fun c kc v W3 e3 hv=>kc v W3 (e2.trans e3) hv)
 |false=>exact g W2 (e1.trans e2) _ (kb.imp fun c kc v W3 e3 hv=>kc v W3 (e2.trans e3) hv))
theorem dR{ma mb:Res Tx}(ha:EV Er ta σ W (sh isS) ma)(hb:EV Er tb σ W (sh isS) mb):EV Er (df (fun x y H Q=>∃i j,x=.str i/\y=.str j/\i.length+j.length<=sizeLine/\Q (.str<|i++j) H) ta tb) σ W (sh isS) (ma.bind fun a=>mb.bind fun b=>fB a b):=
 rq ha hb fun W a b x y Q hx hy k=>by
  cases hx;cases hy;obtain⟨h1,h2⟩:=aW k;exact⟨_,_,rfl,rfl,by rw[cu,cu];exact lY h1,by rw[fv];exact h2 _ W (.refl _) rfl⟩
theorem we{ma:Res Tx}{mb:Res Int}(ha:EV Er ta σ W (sh isS) ma)(hb:EV Er tb σ W (sh isI) mb):EV Er (df (fun x y H Q=>∃c n,x=.str (sOf [c])/\y=.int n/\0<=n/\n<=100000/\Q (.str<|sOf<|ES n.toNat c) H) ta tb) σ W (sh isS) (ma.bind fun a=>mb.bind fun b=>yB a b):=
 rq ha hb fun W a b x y Q hx hy k=>by
  cases hx;cases hy
  match a,k with
  | [c],k=>
   obtain⟨h1,h2⟩:=aW k;exact⟨c,b,rfl,rfl,h1.1,h1.2,h2 _ W (.refl _) rfl⟩
theorem cv{ma:Res Tx}{mb:Res Int}(ha:EV Er ta σ W (sh isS) ma)(hb:EV Er tb σ W (sh isI) mb):EV Er (df cG ta tb) σ W (sh isS) (ma.bind fun a=>mb.bind fun b=>fS a b):=
 rq ha hb fun W a b x y Q hx hy k=>by
  cases hx;cases hy;obtain⟨h1,h2⟩:=aW<|CA k;obtain⟨c,h3,h4⟩:=fz<|CA h2;exact⟨_,b,c,rfl,rfl,by rw[cu];exact lY h1,by rw[pR];exact h3,h4 _ W (.refl _) rfl⟩
theorem Ae{R:Rw α}{r:V->Option Int->Option Int->Hp->VK->Prop}{Ra:Rw β}[MonoW Ra]{ma:Res β}{tl th:TO}{ml mh:Res (Option Int)}{f:β->Option Int->Option Int->Res α}(ha:EV Er ta σ W Ra ma)
  (hl:∀W1,Ext W W1->∀Q:Option Int->Hp->Prop,ml.OkE Er (fun o=>∀W2,Ext W1 W2->Q o W2.H)->tl σ W1.H Q) (hh:∀W1,Ext W W1->∀Q:Option Int->Hp->Prop,mh.OkE Er (fun o=>∀W2,Ext W1 W2->Q o W2.H)->th σ W1.H Q)
  (h:∀W a x lo hi Q,Ra W a x->(f a lo hi).OkE Er (fun c=>∀v W2,Ext W W2->R W2 c v->Q v W2.H)->r x lo hi W.H Q):EV Er (fu r ta tl th) σ W R (ma.bind fun a=>ml.bind fun lo=>mh.bind fun hi=>f a lo hi):=fun W1 e1 Q k=>
 ha W1 e1 _ ((CA k).imp fun a ka x W2 e2 hx=>hl W2 (e1.trans e2) _ ((CA ka).imp fun lo kl W3 e3=>hh W3 ((e1.trans e2).trans e3) _ ((CA kl).imp fun hi kh W4 e4=>
  h W4 a x lo hi Q (Dv (e3.trans e4) hx) (kh.imp fun c kc v W5 e5 hv=>kc v W5 (((e2.trans e3).trans e4).trans e5) hv))))
theorem tO:∀W1,Ext W W1->∀Q:Option Int->Hp->Prop,(CK (none:Option Int)).OkE Er (fun o=>∀W2,Ext W1 W2->Q o W2.H)->aK σ W1.H Q:=fun W1 _ Q k=>k W1<|.refl _
theorem tP{m:Res Int}(h:EV Er t σ W (sh isI) m):∀W1,Ext W W1->∀Q:Option Int->Hp->Prop,(m.bind fun i=>.ok<|some i).OkE Er (fun o=>∀W2,Ext W1 W2->Q o W2.H)->bu t σ W1.H Q:=fun W1 e1 Q k=>
 h W1 e1 _ ((CA k).imp fun i ki v W2 e2 hv=>⟨i,hv,ki W2 e2⟩)
theorem pZ{ma:Res Tx}{tl th:TO}{ml mh:Res (Option Int)}(ha:EV Er ta σ W (sh isS) ma)
  (hl:∀W1,Ext W W1->∀Q:Option Int->Hp->Prop,ml.OkE Er (fun o=>∀W2,Ext W1 W2->Q o W2.H)->tl σ W1.H Q) (hh:∀W1,Ext W W1->∀Q:Option Int->Hp->Prop,mh.OkE Er (fun o=>∀W2,Ext W1 W2->Q o W2.H)->th σ W1.H Q):
  EV Er (fu (fun x lo hi H Q=>∃l,x=.str (sOf l)/\l.length<=sizeLine/\Q (.str<|sOf<|j0 l lo hi) H) ta tl th) σ W (sh isS) (ma.bind fun a=>ml.bind fun lo=>mh.bind fun hi=>rn a lo hi):=
 Ae ha hl hh fun W a x lo hi Q hx k=>by
  cases hx;obtain⟨h1,h2⟩:=aW k;exact⟨a,rfl,lY h1,h2 _ W (.refl _) rfl⟩
theorem Af(x:Tx)(c j:Nat)(h:tI x c=some j):HE (sOf x) (sOf [c])=(j:Int):=by
 unfold tI at h;rw[List.findIdx?_eq_some_iff_getElem]at h;obtain⟨hj,h1,h2⟩:=h;have hat:∀i,StrLaws.At (sOf x) (sOf [c]) (sOf x).length i↔x[i]? =some c:=fun i=>by
  have:=StrLaws.subAt_one (sOf x) c i;rw[pR]at this;exact this
 unfold HE;rcases StrLaws.occ_head (sOf x) (sOf [c]) 1 (CU _)with⟨_,hn⟩|⟨i,r,e,hi,hk⟩
 ·exact absurd ((hat j).mpr (by rw[CJ hj];simpa using h1))<|hn j
 ·rw[e];have e2:=(hat i).mp hi;obtain⟨hil,e3⟩:=CL.mp e2;have:i=j:=by
   rcases Nat.lt_trichotomy i j with z|z|z;·exact absurd e3 (by simpa using h2 i z)
   ·exact z
   ·exact absurd ((hat j).mpr (by rw[CJ hj];simpa using h1))<|hk j z
  rw[this]
theorem hW{ma mb:Res Tx}{K:CF}(ha:EV Er ta σ W (sh isS) ma)(hb:EV Er tb σ W (sh isS) mb):EV Er (eO K "str" (fun x xs H Q=>∃a b,x=.str a/\xs=[.str b]/\0<=HE a b/\Q (.int<|HE a b) H) ta<|ak tb aQ) σ W (sh isI) (ma.bind fun a=>mb.bind fun b=>j5 a b):=fun W1 e1 Q k=>
 ha W1 e1 _ ((CA k).imp fun a ka x W2 e2 hx=>by
  cases hx;refine⟨rfl,hb W2 (e1.trans e2) _<|(CA ka).imp fun b kb y W3 e3 hy=>?_⟩;cases hy
  match b,kb with
  | [c],kb=>
   obtain⟨j,h1,h2⟩:=fz (CA kb);have e:=Af a c j h1;exact⟨_,_,rfl,rfl,by rw[e];omega,by rw[e];exact h2 _ W3 (e2.trans e3) rfl⟩)
theorem Same.tup{H H':Hp}{a:Addr}{xs:List V}(e:Same H H')(h:SqT K H a xs):SqT K H' a xs:=by
 rcases h with(h|⟨o,h⟩)|h;·exact .inl<|.inl<|e _ _ h
 ·exact .inl<|.inr ⟨o,e _ _ h⟩
 ·exact .inr h
def isT2(K:CF)(R1:Rp α)(R2:Rp β):Rp (α×β):=fun H a v=>∃p x y,v=.ref p/\SqT K H p [x,y]/\R1 H a.1 x/\R2 H a.2 y
def isT3(K:CF)(R1:Rp α)(R2:Rp β)(R3:Rp γ):Rp (α×β×γ):=fun H a v=>∃p x y z,v=.ref p/\SqT K H p [x,y,z]/\R1 H a.1 x/\R2 H a.2.1 y/\R3 H a.2.2 z
instance zkeep14{R1:Rp α}{R2:Rp β}[Mono R1][Mono R2]:Mono (isT2 K R1 R2):=⟨fun e⟨p,x,y,h0,h,h1,h2⟩=>⟨p,x,y,h0,Same.tup e h,Cz e h1,Cz e h2⟩⟩
instance zkeep15{R1:Rp α}{R2:Rp β}{R3:Rp γ}[Mono R1][Mono R2][Mono R3]:Mono (isT3 K R1 R2 R3):=⟨fun e⟨p,x,y,z,h0,h,h1,h2,h3⟩=>⟨p,x,y,z,h0,Same.tup e h,Cz e h1,Cz e h2,Cz e h3⟩⟩
theorem bz{R1:Rp α}{R2:Rp β}[Mono R1][Mono R2]{ma:Res α}{mb:Res β}(ha:EV Er ta σ W (sh R1) ma)(hb:EV Er tb σ W (sh R2) mb):EV Er (cf<|ak ta<|ak tb aQ) σ W (sh<|isT2 K R1 R2) (ma.bind fun a=>mb.bind fun b=>.ok (a,b)):=fun W1 e1 Q k=>
 ha W1 e1 _ ((CA k).imp fun a ka x W2 e2 hx=>hb W2 (e1.trans e2) _ ((CA ka).imp fun b kb y W3 e3 hy=>⟨(by show 2<=sizeLine;decide),fun p hp=>
  kb (.ref p) (W3.new p (.tup [x,y])) ((e2.trans e3).trans (.new _ hp)) ⟨p,x,y,rfl,KQ aG,Cz (Gg _ hp).g (Cz (R:=R1) e3.g hx),Cz (R:=R2) (Gg _ hp).g hy⟩⟩))
theorem dz{R1:Rp α}{R2:Rp β}{R3:Rp γ}[Mono R1][Mono R2][Mono R3]{ma:Res α}{mb:Res β}{mc:Res γ}(ha:EV Er ta σ W (sh R1) ma)(hb:EV Er tb σ W (sh R2) mb)(hc:EV Er tc σ W (sh R3) mc):
  EV Er (cf<|ak ta<|ak tb<|ak tc aQ) σ W (sh<|isT3 K R1 R2 R3) (ma.bind fun a=>mb.bind fun b=>mc.bind fun c=>.ok (a,b,c)):=fun W1 e1 Q k=>
 ha W1 e1 _ ((CA k).imp fun a ka x W2 e2 hx=>hb W2 (e1.trans e2) _ ((CA ka).imp fun b kb y W3 e3 hy=>hc W3 ((e1.trans e2).trans e3) _ ((CA kb).imp fun c kc z W4 e4 hz=>⟨(by show 3<=sizeLine;decide),fun p hp=>
  kc (.ref p) (W4.new p (.tup [x,y,z])) (((e2.trans e3).trans e4).trans (.new _ hp)) ⟨p,x,y,z,rfl,KQ aG,Cz (Gg _ hp).g (Cz (R:=R1) (e3.trans e4).g hx),Cz (R:=R2) (Gg _ hp).g (Cz (R:=R2) e4.g hy),Cz (R:=R3) (Gg _ hp).g hz⟩⟩)))
theorem bw{R:Rp α}{Rt:Rp β}{m:Res β}{i:Int}{f:β->α}(h:∀H b v,Rt H b v->∃p xs x,v=.ref p/\SqT K H p xs/\L2.atI xs i=some x/\R H (f b) x)(ha:EV Er ta σ W (sh Rt) m):EV Er (df (cy K) ta<|tC<|.int i) σ W (sh R) (m.bind fun b=>.ok<|f b):=fun W1 e1 Q k=>
 ha W1 e1 _ ((CA k).imp fun b kb v W2 e2 hv=>by
  obtain⟨p,xs,x,h1,h2,h3,h4⟩:=h _ _ _ hv;exact⟨p,xs,i,x,h1,rfl,Same.tup W2.ok h2,h3,kb _ W2 e2 h4⟩)
theorem Ag{R1:Rp α}{R2:Rp β}:∀H b v,isT2 K R1 R2 H b v->∃p xs x,v=.ref p/\SqT K H p xs/\L2.atI xs 0=some x/\R1 H b.1 x:=fun _ _ _⟨p,x,y,h0,h,h1,h2⟩=>⟨p,_,x,h0,h,rfl,h1⟩
theorem Ah{R1:Rp α}{R2:Rp β}:∀H b v,isT2 K R1 R2 H b v->∃p xs x,v=.ref p/\SqT K H p xs/\L2.atI xs 1=some x/\R2 H b.2 x:=fun _ _ _⟨p,x,y,h0,h,h1,h2⟩=>⟨p,_,y,h0,h,rfl,h2⟩
theorem oI{R1:Rp α}{R2:Rp β}{R3:Rp γ}:∀H b v,isT3 K R1 R2 R3 H b v->∃p xs x,v=.ref p/\SqT K H p xs/\L2.atI xs 0=some x/\R1 H b.1 x:=fun _ _ _⟨p,x,y,z,h0,h,h1,h2,h3⟩=>⟨p,_,x,h0,h,rfl,h1⟩
theorem nh{R1:Rp α}{R2:Rp β}{R3:Rp γ}:∀H b v,isT3 K R1 R2 R3 H b v->∃p xs x,v=.ref p/\SqT K H p xs/\L2.atI xs 1=some x/\R2 H b.2.1 x:=fun _ _ _⟨p,x,y,z,h0,h,h1,h2,h3⟩=>⟨p,_,y,h0,h,rfl,h2⟩
theorem m7{R1:Rp α}{R2:Rp β}{R3:Rp γ}:∀H b v,isT3 K R1 R2 R3 H b v->∃p xs x,v=.ref p/\SqT K H p xs/\L2.atI xs 2=some x/\R3 H b.2.2 x:=fun _ _ _⟨p,x,y,z,h0,h,h1,h2,h3⟩=>⟨p,_,z,h0,h,rfl,h3⟩
theorem q0{R:Rp α}{H:Hp}{as:List α}{xs:List V}(h:LR R H as xs){i:Int}{a:α}(e:sD as i=some a):∃x,L2.atI xs i=some x/\R H a x:=by
 unfold sD at e;unfold L2.atI;rw[h.1];cases z:Mi.ixN as.length i with
 |none=>rw[z]at e;cases e
 |some j=>
  rw[z]at e;obtain⟨x,h1,h2⟩:=h.get (i:=j) e;exact⟨x,by show(L2.ixN as.length i).bind _=_;rw[show L2.ixN as.length i=Mi.ixN as.length i from rfl,z];exact h1,h2⟩
theorem LR.three{R:Rp α}{H:Hp}{a b c:α}{x y z:V}(h1:R H a x)(h2:R H b y)(h3:R H c z):LR R H [a,b,c] [x,y,z]:=⟨rfl,fun i v m e1 e2=>by
 match i,e1,e2 with
 |0,e1,e2=>cases e1;cases e2;exact h1
 |1,e1,e2=>cases e1;cases e2;exact h2
 |2,e1,e2=>cases e1;cases e2;exact h3⟩
theorem cO{R:Rp α}[Mono R]{ma:Res (List α)}{mb:Res Int}(ha:EV Er ta σ W (pk R) ma)(hb:EV Er tb σ W (sh isI) mb):EV Er (df (cn K) ta tb) σ W (sh R) (ma.bind fun a=>mb.bind fun b=>fA a b):=
 rq ha hb fun W a b x y Q hx hy k=>by
  cases hy;obtain⟨p,vs,rfl,h,h1⟩:=hx;obtain⟨c,h4,h5⟩:=fz k;obtain⟨z,h6,h7⟩:=q0 h1 h4;exact⟨p,_,b,z,rfl,rfl,Fe h,h6,h5 _ W (.refl _) h7⟩
theorem gu{R:Rp α}:EVo Er (cm aQ) σ W R (.ok []):=fun W1 e1 Q k=>⟨by decide,fun p hp=>k p (W1.mut p (.lst [])<|W1.gnone hp) (.own _ hp) hp ⟨W1.gnone hp,[],aG,.nil⟩⟩
def AV(Er:Nat->Prop)(t:TA)(σ:St)(W:Wd)(R:Rp α)(n:Nat)(m:Res (List α)):Prop:=∀W1,Ext W W1->∀Q:List V->Hp->Prop,m.OkE Er (fun as=>∀vs W2,Ext W1 W2->vs.length=n->LR R W2.G as vs->Q vs W2.H)->t σ W1.H Q
theorem bW{R:Rp α}:AV Er aQ σ W R 0 (.ok []):=fun W1 _ Q k=>k [] W1 (.refl _) rfl .nil
theorem LR.cons{R:Rp α}{H:Hp}{a:α}{v:V}{as:List α}{vs:List V}(h:R H a v)(r:LR R H as vs):LR R H (a::as) (v::vs):=⟨by simp[r.1],fun i x m e1 e2=>by
 cases i with
 |zero=>cases e1;cases e2;exact h
 |succ j=>exact r.2 j x m e1 e2⟩
theorem az{R:Rp α}[Mono R]{n:Nat}{ts:TA}{m:Res α}{ms:Res (List α)}(h:EV Er t σ W (sh R) m)(g:AV Er ts σ W R n ms):AV Er (ak t ts) σ W R (n+1) (m.bind fun a=>ms.bind fun as=>.ok (a::as)):=fun W1 e1 Q k=>
 h W1 e1 _ ((CA k).imp fun a ka v W2 e2 hv=>g W2 (e1.trans e2) _ ((CA ka).imp fun as kas vs W3 e3 hn hvs=>kas (v::vs) W3 (e2.trans e3) (by simp[hn])<|.cons (Cz (R:=R) e3.g hv) hvs))
theorem bX{R:Rp α}[Mono R]{n:Nat}{ts:TA}{ms:Res (List α)}(g:AV Er ts σ W R n ms)(hn:n<=cap:=by decide):EVo Er (cm ts) σ W R ms:=fun W1 e1 Q k=>
 g W1 e1 _ (k.imp fun as ka vs W2 e2 hv hvs=>⟨by rw[hv];exact lY hn,fun p hp=>ka p (W2.mut p (.lst vs)<|W2.gnone hp) (e2.trans<|.own _ hp) (bg e2.h hp) ⟨W2.gnone hp,vs,aG,hvs⟩⟩)
theorem eQ{R:Rp α}[Mono R]{ma mb:Res (List α)}(ha:EV Er ta σ W (pk R) ma)(hb:EV Er tb σ W (pk R) mb):EVo Er (df cH ta tb) σ W R (ma.bind fun a=>mb.bind fun b=>yA a b):=fun W1 e1 Q k=>
 ha W1 e1 _ ((CA k).imp fun a ka x W2 e2 hx=>hb W2 (e1.trans e2) _ ((CA ka).imp fun b kb y W3 e3 hy=>by
  obtain⟨p,vs,rfl,h1,h2⟩:=Dv e3 hx;obtain⟨q,us,rfl,h3,h4⟩:=hy;obtain⟨h5,h6⟩:=aW kb;refine⟨p,q,vs,us,rfl,rfl,h1,h3,by rw[h2.1,h4.1];exact lY h5,fun r hr=>h6 r (W3.mut r (.lst<|vs++us)<|W3.gnone hr) ((e2.trans e3).trans (.own _ hr)) (bg (e2.trans e3).h hr) ⟨W3.gnone hr,_,aG,?_⟩⟩;exact⟨by rw[DZ,DZ,h2.1,h4.1],fun i v m q1 q2=>by
   by_cases hi:i<vs.length
   ·rw[Dq hi]at q1;rw[Dq (by rw[<-h2.1];exact hi)]at q2;exact h2.2 i v m q1 q2
   ·rw[Dg (by omega)]at q1;rw[Dg (by rw[<-h2.1];omega)]at q2;rw[<-h2.1]at q2;exact h4.2 _ v m q1 q2⟩))
theorem LR.cut{R:Rp α}{H:Hp}{as:List α}{vs:List V}(h:LR R H as vs)(lo hi:Option Int):LR R H (Mi.cut as lo hi) (oC vs lo hi):=by
 unfold Mi.cut oC;rw[h.1];exact(h.drop _).take _
theorem wg{R:Rp α}[Mono R]{ma:Res (List α)}{tl th:TO}{ml mh:Res (Option Int)}(ha:EV Er ta σ W (pk R) ma)
  (hl:∀W1,Ext W W1->∀Q:Option Int->Hp->Prop,ml.OkE Er (fun o=>∀W2,Ext W1 W2->Q o W2.H)->tl σ W1.H Q) (hh:∀W1,Ext W W1->∀Q:Option Int->Hp->Prop,mh.OkE Er (fun o=>∀W2,Ext W1 W2->Q o W2.H)->th σ W1.H Q):
  EVo Er (fu (cz K) ta tl th) σ W R (ma.bind fun a=>ml.bind fun lo=>mh.bind fun hi=>.ok<|Mi.cut a lo hi):=fun W1 e1 Q k=>
 ha W1 e1 _ ((CA k).imp fun a ka x W2 e2 hx=>hl W2 (e1.trans e2) _ ((CA ka).imp fun lo kl W3 e3=>hh W3 ((e1.trans e2).trans e3) _ ((CA kl).imp fun hi kh W4 e4=>by
  obtain⟨p,vs,rfl,h1,h2⟩:=Dv (e3.trans e4) hx;have e5:=(e2.trans e3).trans e4;exact⟨p,vs,rfl,Fe h1,fun r hr=>kh r (W4.mut r (.lst (oC vs lo hi)) (W4.gnone hr)) (e5.trans (.own _ hr)) (bg e5.h hr) ⟨W4.gnone hr,_,aG,h2.cut lo hi⟩⟩)))
theorem oJ{ma:Res Int}(ha:EV Er ta σ W (sh isI) ma):EV Er (dP (fun xs H Q=>∃i,xs=[.int i]/\Q (.int (if i<0 then -i else i)) H)<|ak ta aQ) σ W (sh isI) (ma.bind fun a=>.ok<|eE a):=fun W1 e1 Q k=>
 ha W1 e1 _ ((CA k).imp fun a ka x W2 e2 hx=>by cases hx;exact⟨a,rfl,ka _ W2 e2 rfl⟩)
theorem dU{R:Rp α}{ma:Res (List α)}(ha:EV Er ta σ W (pk R) ma):EV Er (dP (fun xs H Q=>∃x n,xs=[x]/\oA K x H n/\Q (.int n) H)<|ak ta aQ) σ W (sh isI) (ma.bind fun a=>.ok (a.length:Int)):=fun W1 e1 Q k=>
 ha W1 e1 _ ((CA k).imp fun a ka x W2 e2 hx=>by
  obtain⟨p,vs,rfl,h1,h2⟩:=hx;exact⟨_,a.length,rfl,.inl ⟨vs,Fe h1,h2.1.symm⟩,ka _ W2 e2 rfl⟩)
theorem wj{ma:Res Tx}(ha:EV Er ta σ W (sh isS) ma):EV Er (dP (fun xs H Q=>∃x n,xs=[x]/\oA K x H n/\Q (.int n) H)<|ak ta aQ) σ W (sh isI) (ma.bind fun a=>yC a):=fun W1 e1 Q k=>
 ha W1 e1 _ ((CA k).imp fun a ka x W2 e2 hx=>by
  cases hx;obtain⟨h1,h2⟩:=aW ka;exact⟨_,a.length,rfl,⟨by rw[cu];exact lY h1,by rw[cu]⟩,h2 _ W2 e2 rfl⟩)
theorem m8{ma:Res (List Tx)}{x:Str}(hx:x=sOf [])(ha:EV Er ta σ W (pk isS) ma):EV Er (eO K "str" (fun x xs H Q=>∃(p:Addr)(ys:List (List Nat)),x=.str (sOf [])/\xs=[.ref p]/\SqL K H p (ys.map fun y=>GW<|sOf y)/\ys.flatten.length<=100000/\Q (.str<|sOf ys.flatten) H) (tC<|.str x)<|ak ta aQ) σ W (sh isS) (ma.bind fun a=>n9 a):=fun W1 e1 Q k=>
 ⟨by show By K "str" (.str x) W1.H;rfl,ha W1 e1 _ ((CA k).imp fun a ka v W2 e2 hv=>by
  obtain⟨p,vs,rfl,h1,h2⟩:=hv;obtain⟨h3,h4⟩:=aW ka;exact⟨p,a,by rw[hx],rfl,Fe (by rw[h1,h2.str]),h3,h4 _ W2 e2 rfl⟩)⟩
end
end Wb
open Wb.Same renaming tup->EA
namespace Wb
open PySem L2 Mi
variable{Er:Nat->Prop}
abbrev Rt(β:Type):=Wd->β->VK->Prop
def rs{β:Type}(R:Rp β):Rt β:=fun W r Q=>∀u W',Ext W W'->R W'.G r u->Q u W'.H
def ro{β:Type}(R:Rp β):Rt (List β):=fun W r Q=>∀p W',Ext W W'->W.H p=none->Ow R W' p r->Q (.ref p) W'.H
section
variable{α β γ δ ε ζ:Type}
def dD(R1:Rp α)(rt:Rt β)(m:α->Res β):Sp:=fun vs H Q _=>∃(W:Wd)(a:α)(v:V),W.H=H/\vs=[v]/\R1 W.G a v/\∃Er:Nat->Prop,(m a).OkE Er fun r=>rt W r Q
def bQ(R1:Rp α)(R2:Rp γ)(rt:Rt β)(m:α->γ->Res β):Sp:=fun vs H Q _=>∃(W:Wd)(a:α)(b:γ)(v u:V),W.H=H/\vs=[v,u]/\R1 W.G a v/\R2 W.G b u/\∃Er:Nat->Prop,(m a b).OkE Er fun r=>rt W r Q
def eF(R1:Rp α)(R2:Rp γ)(R3:Rp δ)(rt:Rt β)(m:α->γ->δ->Res β):Sp:=fun vs H Q _=>∃(W:Wd)(a:α)(b:γ)(c:δ)(v u w:V),W.H=H/\vs=[v,u,w]/\R1 W.G a v/\R2 W.G b u/\R3 W.G c w/\∃Er:Nat->Prop,(m a b c).OkE Er fun r=>rt W r Q
def gQ(R1:Rp α)(R2:Rp γ)(R3:Rp δ)(R4:Rp ε)(rt:Rt β)(m:α->γ->δ->ε->Res β):Sp:=fun vs H Q _=>∃(W:Wd)(a:α)(b:γ)(c:δ)(d:ε)(v u w x:V),W.H=H/\vs=[v,u,w,x]/\R1 W.G a v/\R2 W.G b u/\R3 W.G c w/\R4 W.G d x/\∃Er:Nat->Prop,(m a b c d).OkE Er fun r=>rt W r Q
def gB(R1:Rp α)(R2:Rp γ)(R3:Rp δ)(R4:Rp ε)(R5:Rp ζ)(rt:Rt β)(m:α->γ->δ->ε->ζ->Res β):Sp:=fun vs H Q _=>∃(W:Wd)(a:α)(b:γ)(c:δ)(d:ε)(e:ζ)(v u w x y:V),W.H=H/\vs=[v,u,w,x,y]/\R1 W.G a v/\R2 W.G b u/\R3 W.G c w/\R4 W.G d x/\R5 W.G e y/\∃Er:Nat->Prop,(m a b c d e).OkE Er fun r=>rt W r Q
variable{t t1 t2 t3 t4 t5:TE}{σ:St}{W W0 W':Wd}{K:CF}
section
variable{R1:Rp α}{R2:Rp γ}{R3:Rp δ}{R4:Rp ε}{R5:Rp ζ}[Mono R1][Mono R2][Mono R3][Mono R4][Mono R5]{m1:Res α}{m2:Res γ}{m3:Res δ}{m4:Res ε}{m5:Res ζ}{E:XK}
theorem cP{R:Rp β}{m:α->Res β}(h1:EV Er t1 σ W (sh R1) m1):EV Er (aN (dD R1 (rs R) m) [] E<|ak t1 aQ) σ W (sh R) (m1.bind fun a=>m a):=fun W1 e1 Q k=>
 h1 W1 e1 _ ((CA k).imp fun a ka v W2 e2 hv=>⟨W2,a,v,rfl,rfl,hv,Er,ka.imp fun r kr u W' e hu=>kr u W' (e2.trans e) hu⟩)
theorem bf{R:Rp β}{m:α->γ->Res β}(h1:EV Er t1 σ W (sh R1) m1)(h2:EV Er t2 σ W (sh R2) m2):EV Er (aN (bQ R1 R2 (rs R) m) [] E<|ak t1<|ak t2 aQ) σ W (sh R) (m1.bind fun a=>m2.bind fun b=>m a b):=fun W1 e1 Q k=>
 h1 W1 e1 _ ((CA k).imp fun a ka v W2 e2 hv=>h2 W2 (e1.trans e2) _<|(CA ka).imp fun b kb u W3 e3 hu=>⟨W3,a,b,v,u,rfl,rfl,Dv (R:=sh R1) e3 hv,hu,Er,kb.imp fun r kr u W' e hu=>kr u W' ((e2.trans e3).trans e) hu⟩)
theorem iE{R:Rp β}{m:α->γ->Res (List β)}(h1:EV Er t1 σ W (sh R1) m1)(h2:EV Er t2 σ W (sh R2) m2):EVo Er (aN (bQ R1 R2 (ro R) m) [] E<|ak t1<|ak t2 aQ) σ W R (m1.bind fun a=>m2.bind fun b=>m a b):=fun W1 e1 Q k=>
 h1 W1 e1 _ ((CA k).imp fun a ka v W2 e2 hv=>h2 W2 (e1.trans e2) _<|(CA ka).imp fun b kb u W3 e3 hu=>⟨W3,a,b,v,u,rfl,rfl,Dv (R:=sh R1) e3 hv,hu,Er,kb.imp fun r kr p W' e hp o=>kr p W' ((e2.trans e3).trans e) (bg (e2.trans e3).h hp) o⟩)
theorem gb{R:Rp β}{m:α->γ->δ->Res β}(h1:EV Er t1 σ W (sh R1) m1)(h2:EV Er t2 σ W (sh R2) m2)(h3:EV Er t3 σ W (sh R3) m3):EV Er (aN (eF R1 R2 R3 (rs R) m) [] E<|ak t1<|ak t2<|ak t3 aQ) σ W (sh R) (m1.bind fun a=>m2.bind fun b=>m3.bind fun c=>m a b c):=fun W1 e1 Q k=>
 h1 W1 e1 _ ((CA k).imp fun a ka v W2 e2 hv=>h2 W2 (e1.trans e2) _ ((CA ka).imp fun b kb u W3 e3 hu=>h3 W3 ((e1.trans e2).trans e3) _ ((CA kb).imp fun c kc w W4 e4 hw=>
  ⟨W4,a,b,c,v,u,w,rfl,rfl,Dv (R:=sh R1) (e3.trans e4) hv,Dv (R:=sh R2) e4 hu,hw,Er,kc.imp fun r kr u W' e hu=>kr u W' (((e2.trans e3).trans e4).trans e) hu⟩)))
theorem gv{R:Rp β}{m:α->γ->δ->Res (List β)}(h1:EV Er t1 σ W (sh R1) m1)(h2:EV Er t2 σ W (sh R2) m2)(h3:EV Er t3 σ W (sh R3) m3):EVo Er (aN (eF R1 R2 R3 (ro R) m) [] E<|ak t1<|ak t2<|ak t3 aQ) σ W R (m1.bind fun a=>m2.bind fun b=>m3.bind fun c=>m a b c):=fun W1 e1 Q k=>
 h1 W1 e1 _ ((CA k).imp fun a ka v W2 e2 hv=>h2 W2 (e1.trans e2) _ ((CA ka).imp fun b kb u W3 e3 hu=>h3 W3 ((e1.trans e2).trans e3) _ ((CA kb).imp fun c kc w W4 e4 hw=>
  ⟨W4,a,b,c,v,u,w,rfl,rfl,Dv (R:=sh R1) (e3.trans e4) hv,Dv (R:=sh R2) e4 hu,hw,Er,kc.imp fun r kr p W' e hp o=>kr p W' (((e2.trans e3).trans e4).trans e) (bg ((e2.trans e3).trans e4).h hp) o⟩)))
theorem ni{R:Rp β}{m:α->γ->δ->ε->Res β}(h1:EV Er t1 σ W (sh R1) m1)(h2:EV Er t2 σ W (sh R2) m2)(h3:EV Er t3 σ W (sh R3) m3)(h4:EV Er t4 σ W (sh R4) m4):EV Er (aN (gQ R1 R2 R3 R4 (rs R) m) [] E<|ak t1<|ak t2<|ak t3<|ak t4 aQ) σ W (sh R) (m1.bind fun a=>m2.bind fun b=>m3.bind fun c=>m4.bind fun d=>m a b c d):=fun W1 e1 Q k=>
 h1 W1 e1 _ ((CA k).imp fun a ka v W2 e2 hv=>h2 W2 (e1.trans e2) _ ((CA ka).imp fun b kb u W3 e3 hu=>h3 W3 ((e1.trans e2).trans e3) _ ((CA kb).imp fun c kc w W4 e4 hw=>h4 W4 (((e1.trans e2).trans e3).trans e4) _ ((CA kc).imp fun d kd x W5 e5 hx=>
  ⟨W5,a,b,c,d,v,u,w,x,rfl,rfl,Dv (R:=sh R1) ((e3.trans e4).trans e5) hv,Dv (R:=sh R2) (e4.trans e5) hu,Dv (R:=sh R3) e5 hw,hx,Er,kd.imp fun r kr u W' e hu=>kr u W' ((((e2.trans e3).trans e4).trans e5).trans e) hu⟩))))
theorem iF{R:Rp β}{m:α->γ->δ->ε->Res (List β)}(h1:EV Er t1 σ W (sh R1) m1)(h2:EV Er t2 σ W (sh R2) m2)(h3:EV Er t3 σ W (sh R3) m3)(h4:EV Er t4 σ W (sh R4) m4):EVo Er (aN (gQ R1 R2 R3 R4 (ro R) m) [] E<|ak t1<|ak t2<|ak t3<|ak t4 aQ) σ W R (m1.bind fun a=>m2.bind fun b=>m3.bind fun c=>m4.bind fun d=>m a b c d):=fun W1 e1 Q k=>
 h1 W1 e1 _ ((CA k).imp fun a ka v W2 e2 hv=>h2 W2 (e1.trans e2) _ ((CA ka).imp fun b kb u W3 e3 hu=>h3 W3 ((e1.trans e2).trans e3) _ ((CA kb).imp fun c kc w W4 e4 hw=>h4 W4 (((e1.trans e2).trans e3).trans e4) _ ((CA kc).imp fun d kd x W5 e5 hx=>
  ⟨W5,a,b,c,d,v,u,w,x,rfl,rfl,Dv (R:=sh R1) ((e3.trans e4).trans e5) hv,Dv (R:=sh R2) (e4.trans e5) hu,Dv (R:=sh R3) e5 hw,hx,Er,kd.imp fun r kr p W' e hp o=>kr p W' ((((e2.trans e3).trans e4).trans e5).trans e) (bg (((e2.trans e3).trans e4).trans e5).h hp) o⟩))))
theorem nj{R:Rp β}{m:α->γ->δ->ε->ζ->Res β}(h1:EV Er t1 σ W (sh R1) m1)(h2:EV Er t2 σ W (sh R2) m2)(h3:EV Er t3 σ W (sh R3) m3)(h4:EV Er t4 σ W (sh R4) m4)(h5:EV Er t5 σ W (sh R5) m5):EV Er (aN (gB R1 R2 R3 R4 R5 (rs R) m) [] E<|ak t1<|ak t2<|ak t3<|ak t4<|ak t5 aQ) σ W (sh R) (m1.bind fun a=>m2.bind fun b=>m3.bind fun c=>m4.bind fun d=>m5.bind fun e=>m a b c d e):=fun W1 e1 Q k=>
 h1 W1 e1 _ ((CA k).imp fun a ka v W2 e2 hv=>h2 W2 (e1.trans e2) _ ((CA ka).imp fun b kb u W3 e3 hu=>h3 W3 ((e1.trans e2).trans e3) _ ((CA kb).imp fun c kc w W4 e4 hw=>h4 W4 (((e1.trans e2).trans e3).trans e4) _ ((CA kc).imp fun d kd x W5 e5 hx=>h5 W5 ((((e1.trans e2).trans e3).trans e4).trans e5) _ ((CA kd).imp fun e ke y W6 e6 hy=>
  ⟨W6,a,b,c,d,e,v,u,w,x,y,rfl,rfl,Dv (R:=sh R1) (((e3.trans e4).trans e5).trans e6) hv,Dv (R:=sh R2) ((e4.trans e5).trans e6) hu,Dv (R:=sh R3) (e5.trans e6) hw,Dv (R:=sh R4) e6 hx,hy,Er,ke.imp fun r kr u W' e hu=>kr u W' (((((e2.trans e3).trans e4).trans e5).trans e6).trans e) hu⟩)))))
theorem gw{R:Rp β}{m:α->γ->δ->ε->ζ->Res (List β)}(h1:EV Er t1 σ W (sh R1) m1)(h2:EV Er t2 σ W (sh R2) m2)(h3:EV Er t3 σ W (sh R3) m3)(h4:EV Er t4 σ W (sh R4) m4)(h5:EV Er t5 σ W (sh R5) m5):EVo Er (aN (gB R1 R2 R3 R4 R5 (ro R) m) [] E<|ak t1<|ak t2<|ak t3<|ak t4<|ak t5 aQ) σ W R (m1.bind fun a=>m2.bind fun b=>m3.bind fun c=>m4.bind fun d=>m5.bind fun e=>m a b c d e):=fun W1 e1 Q k=>
 h1 W1 e1 _ ((CA k).imp fun a ka v W2 e2 hv=>h2 W2 (e1.trans e2) _ ((CA ka).imp fun b kb u W3 e3 hu=>h3 W3 ((e1.trans e2).trans e3) _ ((CA kb).imp fun c kc w W4 e4 hw=>h4 W4 (((e1.trans e2).trans e3).trans e4) _ ((CA kc).imp fun d kd x W5 e5 hx=>h5 W5 ((((e1.trans e2).trans e3).trans e4).trans e5) _ ((CA kd).imp fun e ke y W6 e6 hy=>
  ⟨W6,a,b,c,d,e,v,u,w,x,y,rfl,rfl,Dv (R:=sh R1) (((e3.trans e4).trans e5).trans e6) hv,Dv (R:=sh R2) ((e4.trans e5).trans e6) hu,Dv (R:=sh R3) (e5.trans e6) hw,Dv (R:=sh R4) e6 hx,hy,Er,ke.imp fun r kr p W' e hp o=>kr p W' (((((e2.trans e3).trans e4).trans e5).trans e6).trans e) (bg ((((e2.trans e3).trans e4).trans e5).trans e6).h hp) o⟩)))))
end
def Yl(J:It)(W:Wd)(R:Rp α)(xs:List α):Prop:=∀W1:Wd,Same W.G W1.G->(∀(i:Nat)(a:α),xs[i]? =some a->J.go i W1.H/\∀x H',J.yld i W1.H x H'->∃W2:Wd,W2.H=H'/\Ext W1 W2/\R W2.G a x)/\J.stop xs.length W1.H
def IV(Er:Nat->Prop)(wi:TI)(σ:St)(W:Wd)(R:Rp α)(m:Res (List α)):Prop:=∀W1,Ext W W1->∀P:It->Hp->Prop,m.OkE Er (fun xs=>∀J W2,Ext W1 W2->Yl J W2 R xs->P J W2.H)->wi σ W1.H P
theorem cJ{R:Rp α}[Mono R]{m:Res (List α)}(h:EV Er t σ W (sh<|isL R) m):IV Er (pJ K t) σ W R m:=fun W1 e1 P k=>
 h W1 e1 _ (k.imp fun xs kx v W2 e2 hv=>by
  obtain⟨p,vs,rfl,h1,h2⟩:=hv;refine⟨p,rfl,⟨vs,Fe (W2.ok _ _ h1)⟩,kx _ W2 e2 fun W3 e3=>⟨fun i a ha=>?_,vs,Fe (W3.ok _ _ (e3 _ _ h1)),by rw[h2.1];exact CU _⟩⟩;obtain⟨x,hx,hr⟩:=h2.get ha;refine⟨⟨vs,x,Fe (W3.ok _ _ (e3 _ _ h1)),hx⟩,fun y H'⟨z1,z2⟩=>⟨W3,z1.symm,.refl _,?_⟩⟩;have:=z2 vs (Fe (W3.ok _ _ (e3 _ _ h1)));rw[hx]at this;cases this;exact Cz e3 hr)
theorem jI{m:Res Tx}(h:EV Er t σ W (sh isS) m):IV Er (A3 t) σ W isS (m.bind fun x=>.ok<|bH x):=fun W1 e1 P k=>
 h W1 e1 _ ((CA k).imp fun x kx v W2 e2 hv=>by
  cases hv;refine⟨x,rfl,kx _ W2 e2 fun W3 e3=>⟨fun i a ha=>?_,by show x.length<=(bH x).length;simp[bH]⟩⟩;unfold bH at ha;rw[CQ]at ha;cases hc:x[i]? with
  |none=>rw[hc]at ha;cases ha
  |some c=>
   rw[hc]at ha;cases ha;refine⟨(CL.mp hc).1,fun y H'⟨z1,c',z2,z3⟩=>⟨W3,z1.symm,.refl _,?_⟩⟩;rw[hc]at z2;cases z2;exact z3)
theorem hX{m:Res Int}(h:EV Er t σ W (sh isI) m):IV Er (xM<|ak t aQ) σ W isI (m.bind fun n=>fC n):=fun W1 e1 P k=>
 h W1 e1 _ ((CA k).imp fun n kn v W2 e2 hv=>by
  cases hv;obtain⟨hb,kn⟩:=aW kn;refine⟨n,rfl,hb.1,hb.2,kn _ W2 e2 fun W3 e3=>⟨fun i a ha=>?_,by show n.toNat<=(eY n).length;simp[eY]⟩⟩;unfold eY at ha;rw[CQ]at ha;have hi:i<n.toNat:=by
   refine HS fun z=>?_;rw[Eg.mpr (by simp;omega)]at ha;cases ha
  rw[F0 hi]at ha;cases ha;exact⟨hi,fun y H'⟨z1,z2⟩=>⟨W3,z1.symm,.refl _,by rw[z2];show FO (0+(i:Int))=.int (i:Int);rw[Int.zero_add]⟩⟩)
def SrcR(K:CF)(W:Wd)(R:Rp α)(xs:List α)(v:V):Prop:=∃(c:Src)(vs:List V),v=c.val/\(∀W1:Wd,Same W.G W1.G->c.has K W1.H vs)/\LR R W.G xs vs
theorem SrcR.mono{R:Rp α}[Mono R]{xs:List α}{v:V}(h:SrcR K W R xs v)(e:Same W.G W'.G):SrcR K W' R xs v:=by
 obtain⟨c,vs,h1,h2,h3⟩:=h;exact⟨c,vs,h1,fun W1 e1=>h2 W1<|e.trans e1,h3.same e⟩
def SV(Er:Nat->Prop)(t:TE)(σ:St)(W:Wd)(K:CF)(R:Rp α)(m:Res (List α)):Prop:=EV Er t σ W (fun W xs v=>SrcR K W R xs v) m
theorem iG{R:Rp α}[Mono R]{m:Res (List α)}(h:EV Er t σ W (sh<|isL R) m):SV Er t σ W K R m:=h.imp fun W xs v⟨p,vs,h0,h1,h2⟩=>⟨.lst p,vs,h0,fun W1 e1=>Fe<|W1.ok _ _<|e1 _ _ h1,h2⟩
theorem tQ{H:Hp}(x:Tx):LR isS H (bH x) (x.map fun c=>GW<|sOf [c]):=⟨by simp[bH],fun i v m e1 e2=>by
 unfold bH at e2;rw[CQ]at e1 e2;cases hc:x[i]? with
 |none=>rw[hc]at e1;cases e1
 |some c=>rw[hc]at e1 e2;cases e1;cases e2;rfl⟩
theorem yG{m:Res Tx}(h:EV Er t σ W (sh isS) m):SV Er t σ W K isS (m.bind fun x=>.ok<|bH x):=fun W1 e1 Q k=>
 h W1 e1 _ ((CA k).imp fun x kx v W2 e2 hv=>by cases hv;exact kx _ W2 e2 ⟨.str x,_,rfl,fun _ _=>rfl,tQ x⟩)
theorem j9{R:Rp α}{m:Res (α×α×α)}(h:EV Er t σ W (sh<|isT3 K R R R) m):SV Er t σ W K R (m.bind fun x=>.ok [x.1,x.2.1,x.2.2]):=fun W1 e1 Q k=>
 h W1 e1 _ ((CA k).imp fun x kx v W2 e2 hv=>by
  obtain⟨p,a,b,c,h0,h,h1,h2,h3⟩:=hv;exact kx _ W2 e2 ⟨.tup p,_,h0,fun W3 e3=>EA (e3.trans W3.ok) h,LR.three h1 h2 h3⟩)
theorem m9{R1:Rp α}{R2:Rp β}[Mono R1][Mono R2]{m1:Res (List α)}{m2:Res (List β)}(h1:SV Er t1 σ W K R1 m1)(h2:SV Er t2 σ W K R2 m2):IV Er (yw K<|ak t1<|ak t2 aQ) σ W (isT2 K R1 R2) (m1.bind fun xs=>m2.bind fun ys=>.ok<|xs.zip ys):=fun W1 e1 P k=>
 h1 W1 e1 _ ((CA k).imp fun xs kx v W2 e2 hv=>h2 W2 (e1.trans e2) _ ((CA kx).imp fun ys ky u W3 e3 hu=>by
  obtain⟨c1,vs,rfl,a1,b1⟩:=SrcR.mono hv e3.g;obtain⟨c2,us,rfl,a2,b2⟩:=hu;refine⟨c1,c2,vs,us,rfl,a1 W3<|.refl _,a2 W3<|.refl _,ky _ W3 (e2.trans e3) fun W4 e4=>⟨fun i ab hab=>?_,?_⟩⟩
  ·rw[Ft]at hab;obtain⟨x,hx,rx⟩:=b1.get hab.1;obtain⟨y,hy,ry⟩:=b2.get hab.2;refine⟨⟨vs,us,x,y,a1 W4 e4,a2 W4 e4,hx,hy⟩,fun z H'⟨p,x',y',hp,z0,z1,z2,z3⟩=>⟨W4.new p<|.tup [x',y'],by rw[z3];rfl,.new _ hp,p,x',y',z0,KQ aG,?_,?_⟩⟩
   ·have:=z1 vs<|a1 W4 e4;rw[hx]at this;cases this;exact Cz (e4.trans (Gg _ hp).g) rx
   ·have:=z2 us<|a2 W4 e4;rw[hy]at this;cases this;exact Cz (e4.trans (Gg _ hp).g) ry
  ·refine⟨vs,us,a1 W4 e4,a2 W4 e4,?_⟩;rw[Gp,b1.1,b2.1];omega))
theorem tR{xs:List α}{i:Nat}{p:Int×α}(h:(fM xs)[i]? =some p):p.1=(i:Int)/\xs[i]? =some p.2:=by
 unfold fM at h;rw[Jd]at h;cases h1:(DP xs.length)[i]? with
 |none=>rw[h1]at h;cases h
 |some j=>
  cases h2:xs[i]? with
  |none=>rw[h1,h2]at h;cases h
  |some x=>
   rw[h1,h2]at h;cases h;have hi:=(CL.mp h2).1;rw[F0 hi]at h1;cases h1;exact⟨rfl,rfl⟩
theorem tS{xs:List α}:(fM xs).length=xs.length:=by simp[fM]
theorem q9{R:Rp α}[Mono R]{m:Res (List α)}(h:EV Er t σ W (sh<|isL R) m):IV Er (xR K<|ak t aQ) σ W (isT2 K isI R) (m.bind fun xs=>.ok<|fM xs):=fun W1 e1 P k=>
 h W1 e1 _ ((CA k).imp fun xs kx v W2 e2 hv=>by
  obtain⟨p,vs,rfl,h1,h2⟩:=hv;refine⟨p,vs,rfl,Fe (W2.ok _ _ h1),kx _ W2 e2 fun W3 e3=>⟨fun i ab hab=>?_,vs,Fe (W3.ok _ _ (e3 _ _ h1)),by rw[tS,h2.1]⟩⟩;obtain⟨hi,ha⟩:=tR hab;obtain⟨x,hx,rx⟩:=h2.get ha;refine⟨⟨vs,x,Fe (W3.ok _ _ (e3 _ _ h1)),hx⟩,fun z H'⟨q,x',hq,z0,z1,z2⟩=>⟨W3.new q (.tup [.int i,x']),by rw[z2];rfl,.new _ hq,q,_,x',z0,KQ aG,by rw[hi];rfl,?_⟩⟩;have:=z1 vs (Fe (W3.ok _ _ (e3 _ _ h1)));rw[hx]at this;cases this;exact Cz (e3.trans (Gg _ hq).g) rx)
theorem rA{f:α->Res β}{xs:List α}{i:Nat}{a:α}(h:xs[i]? =some a):jC f (xs.drop i)=(f a).bind fun b=>(jC f<|xs.drop<|i+1).bind fun bs=>.ok (b::bs):=by
 obtain⟨hi,e⟩:=CL.mp h;rw[Ez hi,e];rfl
theorem oK{f:α->Res (Option β)}{xs:List α}{i:Nat}{a:α}(h:xs[i]? =some a):hU f (xs.drop i)=(f a).bind fun b=>(hU f<|xs.drop<|i+1).bind fun bs=>.ok (match b with|some b=>b::bs|none=>bs):=by
 obtain⟨hi,e⟩:=CL.mp h;rw[Ez hi,e];rfl
theorem fD{cap:List (Option Nat)}{wi:TI}{g:TG}{te:TE}{R:Rp α}{R':Rp β}[Mono R']{m:Res (List α)}{f:α->Res β}(hi:IV Er wi σ W R m)
  (hb:∀(W1:Wd)(a:α)(v:V),Ext W W1->R W1.G a v->∀Q:VK,(f a).OkE Er (fun b=>∀u W2,Ext W1 W2->R' W2.G b u->Q u W2.H)->g v (aZ cap σ) W1.H fun σ2 H2=>Keep (aZ cap σ) σ2/\te σ2 H2 Q):
  EVo Er (mX cap wi g yv te) σ W R' (m.bind fun xs=>fb xs f):=fun W1 e1 Q k=>by
 refine hi W1 e1 _<|(CA k).imp fun xs kx J W2 e2 hy=>?_;obtain⟨hl,kx⟩:=aW<|CA kx;refine⟨fun i n ys H=>n=xs.length-i/\i<=xs.length/\ys.length<=i/\∃(W3:Wd)(bs:List β),W3.H=H/\Ext W2 W3/\LR R' W3.G bs ys/\(jC f<|xs.drop i).OkE Er (fun r=>∀p W4,Ext W1 W4->W1.H p=none->Ow R' W4 p (bs++r)->Q (.ref p) W4.H),⟨xs.length,by simp,by simp,by simp,W2,[],rfl,.refl _,.nil,?_⟩,?_⟩;·simpa using kx
 ·rintro i n ys H ⟨rfl,hi1,hyl,W3,bs,rfl,e3,lr,q⟩;refine⟨by rw[E6];unfold Mi.cap at hl;omega,?_⟩;by_cases hlt:i<xs.length
  ·obtain⟨a,ha⟩:∃a,xs[i]? =some a:=⟨xs[i],by simp[hlt]⟩
   obtain⟨h1,h2⟩:=(hy W3 e3.g).1 i a ha;refine .inr ⟨h1,fun ys' H'=>ys'.length<=i+1/\∃(W3:Wd)(bs:List β),W3.H=H'/\Ext W2 W3/\LR R' W3.G bs ys'/\(jC f<|xs.drop<|i+1).OkE Er (fun r=>∀p W4,Ext W1 W4->W1.H p=none->Ow R' W4 p (bs++r)->Q (.ref p) W4.H),fun ys' H'⟨z1,z2⟩=>⟨xs.length-(i+1),by omega,rfl,hlt,z1,z2⟩,fun x H' hx=>?_⟩;obtain⟨W4,rfl,e4,rx⟩:=h2 x H' hx;rw[rA ha]at q;have:=hb W4 a x (e1.trans<|(e2.trans e3).trans e4) rx (fun y H4=>(ys++[y]).length<=i+1/\∃(W3:Wd)(bs:List β),W3.H=H4/\Ext W2 W3/\LR R' W3.G bs (ys++[y])/\(jC f<|xs.drop<|i+1).OkE Er (fun r=>∀p W4,Ext W1 W4->W1.H p=none->Ow R' W4 p (bs++r)->Q (.ref p) W4.H))
    ((CA q).imp fun b kb u W5 e5 hu=>⟨by simp;exact hyl,W5,bs++[b],rfl,(e3.trans e4).trans e5,(lr.same (e4.trans e5).g).snoc hu,(CA kb).imp fun r kr=>by rw[FA];exact kr⟩)
   exact this
  ·have e:i=xs.length:=by omega
   subst e;rw[FK]at q;refine .inl ⟨(hy W3 e3.g).2,fun D hD=>?_⟩;have e13:=e2.trans e3;have:=q D (W3.mut D (.lst ys)<|W3.gnone hD) (e13.trans<|.own _ hD) (bg e13.h hD) ⟨W3.gnone hD,ys,aG,by rw[F1];exact lr⟩;exact this
theorem jJ{cap:List (Option Nat)}{wi:TI}{g:TG}{tf:TT}{te:TE}{R:Rp α}{R':Rp β}[Mono R']{m:Res (List α)}{f:α->Res (Option β)}(hi:IV Er wi σ W R m)
    (hb:∀(W1:Wd)(a:α)(v:V),Ext W W1->R W1.G a v->∀Q:Option V->Hp->Prop,(f a).OkE Er (fun b=>∀u W2,Ext W1 W2->(match b,u with|some b,some u=>R' W2.G b u|none,none=>True|_,_=>False)->Q u W2.H)->g v (aZ cap σ) W1.H fun σ2 H2=>Keep (aZ cap σ) σ2/\tf σ2 H2 fun b H3=>if b=true then te σ2 H3 (fun y H4=>Q (some y) H4)else Q none H3):
    EVo Er (mX cap wi g tf te) σ W R' (m.bind fun xs=>jD xs f):=fun W1 e1 Q k=>by
  refine hi W1 e1 _<|(CA k).imp fun xs kx J W2 e2 hy=>?_;obtain⟨hl,kx⟩:=aW<|CA kx;refine⟨fun i n ys H=>n=xs.length-i/\i<=xs.length/\ys.length<=i/\∃(W3:Wd)(bs:List β),W3.H=H/\Ext W2 W3/\LR R' W3.G bs ys/\(hU f<|xs.drop i).OkE Er (fun r=>∀p W4,Ext W1 W4->W1.H p=none->Ow R' W4 p (bs++r)->Q (.ref p) W4.H),⟨xs.length,by simp,by simp,by simp,W2,[],rfl,.refl _,.nil,?_⟩,?_⟩;·simpa using kx
  · rintro i n ys H ⟨rfl,hi1,hyl,W3,bs,rfl,e3,lr,q⟩;refine⟨by rw[E6];unfold Mi.cap at hl;omega,?_⟩;by_cases hlt:i<xs.length
    · obtain⟨a,ha⟩:∃a,xs[i]? =some a:=⟨xs[i],by simp[hlt]⟩
      obtain⟨h1,h2⟩:=(hy W3 e3.g).1 i a ha;refine .inr ⟨h1,fun ys' H'=>ys'.length<=i+1/\∃(W3:Wd)(bs:List β),W3.H=H'/\Ext W2 W3/\LR R' W3.G bs ys'/\(hU f<|xs.drop<|i+1).OkE Er (fun r=>∀p W4,Ext W1 W4->W1.H p=none->Ow R' W4 p (bs++r)->Q (.ref p) W4.H),fun ys' H'⟨z1,z2⟩=>⟨xs.length-(i+1),by omega,rfl,hlt,z1,z2⟩,fun x H' hx=>?_⟩;obtain⟨W4,rfl,e4,rx⟩:=h2 x H' hx;rw[oK ha]at q
      have:=hb W4 a x (e1.trans<|(e2.trans e3).trans e4) rx (fun y H4=>(match y with|some y=>ys++[y]|none=>ys).length<=i+1/\∃(W3:Wd)(bs:List β),W3.H=H4/\Ext W2 W3/\LR R' W3.G bs (match y with|some y=>ys++[y]|none=>ys)/\(hU f<|xs.drop<|i+1).OkE Er (fun r=>∀p W4,Ext W1 W4->W1.H p=none->Ow R' W4 p (bs++r)->Q (.ref p) W4.H))
        ((CA q).imp fun b kb u W5 e5 hu=>by
          match b,u,hu,kb with
          |some b,some u,hu,kb=>exact⟨by simp;exact hyl,W5,bs++[b],rfl,(e3.trans e4).trans e5,(lr.same (e4.trans e5).g).snoc hu,(CA kb).imp fun r kr=>by rw[FA];exact kr⟩
          |none,none,hu,kb=>exact⟨by show ys.length<=i+1;omega,W5,bs,rfl,(e3.trans e4).trans e5,lr.same (e4.trans e5).g,(CA kb).imp fun r kr=>kr⟩)
      exact this
    · have e:i=xs.length:=by omega
      subst e;rw[FK]at q;refine .inl ⟨(hy W3 e3.g).2,fun D hD=>?_⟩;have e13:=e2.trans e3;have:=q D (W3.mut D (.lst ys)<|W3.gnone hD) (e13.trans<|.own _ hD) (bg e13.h hD) ⟨W3.gnone hD,ys,aG,by rw[F1];exact lr⟩;exact this
end
end Wb
open Wb.SrcR renaming mono->N7
namespace Wb
open PySem L2 Mi
variable{Er:Nat->Prop}
section
variable{α β γ δ:Type}{t u:TS}{te ti:TE}{g:TG}{D:Ends}{σ:St}{W W0 W':Wd}{K:CF}{i j k n:Nat}{P:St->Hp->Prop}{H:Hp}{v:V}
theorem gn{σ':St}(h:P σ' H)(hσ:σ.set i (some v)=σ':=by rfl):aV i v σ H P:=by subst hσ;exact h
theorem iH{σ':V->V->St}{R1:Rp α}{R2:Rp β}{ab:α×β}(h:isT2 K R1 R2 W.G ab v)(q:∀x y,R1 W.G ab.1 x->R2 W.G ab.2 y->P (σ' x y) W.H)(hσ:∀x y,(σ.set i<|some x).set j (some y)=σ' x y:=by intro _ _;rfl):cb K 2 (bj (aV i)<|bj (aV j) cx) v σ W.H P:=by
 obtain⟨p,x,y,h0,h,h1,h2⟩:=h;exact⟨p,_,h0,EA W.ok h,rfl,x,_,rfl,y,_,rfl,rfl,by have:=q x y h1 h2;rw[<-hσ]at this;exact this⟩
theorem rB{σ':V->V->V->St}{R1:Rp α}{R2:Rp β}{R3:Rp γ}{ab:α×β×γ}(h:isT3 K R1 R2 R3 W.G ab v)(q:∀x y z,R1 W.G ab.1 x->R2 W.G ab.2.1 y->R3 W.G ab.2.2 z->P (σ' x y z) W.H)(hσ:∀x y z,((σ.set i<|some x).set j (some y)).set k (some z)=σ' x y z:=by intro _ _ _;rfl):cb K 3 (bj (aV i)<|bj (aV j)<|bj (aV k) cx) v σ W.H P:=by
 obtain⟨p,x,y,z,h0,h,h1,h2,h3⟩:=h;exact⟨p,_,h0,EA W.ok h,rfl,x,_,rfl,y,_,rfl,z,_,rfl,rfl,by have:=q x y z h1 h2 h3;rw[<-hσ]at this;exact this⟩
theorem eH{σ':V->St}{R:Rw α}{m:Res α}(h:EV Er te σ W R m)(q:m.OkE Er fun a=>∀v W',Ext W W'->R W' a v->D.nx (σ' v) W'.H)(hσ:∀v,σ.set i (some v)=σ' v:=by intro _;rfl):bP te (aV i) D σ W.H:=h W (.refl _) _ (q.imp fun a k v W' e r=>by have:=k v W' e r;rw[<-hσ]at this;exact this)
theorem wk{σ':Addr->St}{R:Rp α}{m:Res (List α)}(h:EVo Er te σ W R m)(q:m.OkE Er fun a=>∀p W',Ext W W'->W.H p=none->Ow R W' p a->D.nx (σ' p) W'.H)(hσ:∀p,σ.set i (some<|.ref p)=σ' p:=by intro _;rfl):bP te (aV i) D σ W.H:=h W (.refl _) _ (q.imp fun a k p W' e hp r=>by have:=k p W' e hp r;rw[<-hσ]at this;exact this)
theorem aO{R:Rw α}{m:Res α}(h:EV Er te σ W R m)(q:m.OkE Er fun a=>∀v W',Ext W W'->R W' a v->D.rt v W'.H):bZ te D σ W.H:=h W (.refl _) _ q
theorem i4{R:Rp α}{m:Res (List α)}(h:EVo Er te σ W R m)(q:m.OkE Er fun a=>∀p W',Ext W W'->W.H p=none->Ow R W' p a->D.rt (.ref p) W'.H):bZ te D σ W.H:=h W (.refl _) _ q
theorem nk{c:TT}{m:Res Bool}(h:TV Er c σ W m)(q:m.OkE Er fun b=>∀W',Ext W W'->if b=true then t D σ W'.H else u D σ W'.H):iY c t u D σ W.H:=h W (.refl _) _ q
theorem mf{S:Type}{c:TT}{m:Res Bool}{mA mB:Res S}{P:S->Prop}(Iv:S->Wd->St->Prop)(h:TV Er c σ W m)(q:(m.bind fun b=>if b then mA else mB).OkE Er P)
  (hA:∀W'(N:St->Hp->Prop),Ext W W'->(∀s W1 σ1,Same W.G W1.G->Iv s W1 σ1->P s->N σ1 W1.H)->mA.OkE Er P->t {D with nx:=N} σ W'.H)
  (hB:∀W'(N:St->Hp->Prop),Ext W W'->(∀s W1 σ1,Same W.G W1.G->Iv s W1 σ1->P s->N σ1 W1.H)->mB.OkE Er P->u {D with nx:=N} σ W'.H)
  (hd:∀s W1 σ1,Same W.G W1.G->Iv s W1 σ1->P s->D.nx σ1 W1.H):iY c t u D σ W.H:=h W (.refl _) _ ((CA q).imp fun b kb W' e=>by
 cases b with
 |true=>exact hA W' D.nx e hd kb
 |false=>exact hB W' D.nx e hd kb)
theorem Ow.ne{R:Rp α}{p q:Addr}{ys:List α}(o:Ow R W q ys)(hp:W.H p=none):q≠p:=by
 obtain⟨vs,a,b⟩:=o.h;exact cg a hp
structure Mu(W W':Wd)(p:Addr):Prop where
 g:Same W.G W'.G
 e:∀W0:Wd,Ext W0 W->W0.H p=none->Ext W0 W'
 h:∀q,q≠p->W.H q≠none->W'.H q=W.H q/\W'.G q=W.G q
theorem Mu.of{W1:Wd}{p:Addr}{o:HO}(e1:Ext W W1)(hg:W1.G p=none):Mu W (W1.mut p o hg) p:=⟨e1.g,fun W0 e0 hp=>(e0.trans e1).mut hp hg,fun q hq hn=>by
 obtain⟨o',ho⟩:=HF.mp hn;exact⟨by show cI W1.H p o q=_;rw[ax hq,e1.h _ _ ho,ho],e1.k q hn⟩⟩
theorem Mu.ow{R:Rp α}[Mono R]{p q:Addr}{ys:List α}(m:Mu W W' p)(hq:q≠p)(o:Ow R W q ys):Ow R W' q ys:=by
 obtain⟨vs,a,b⟩:=o.h;obtain⟨h1,h2⟩:=m.h q hq (by rw[a];exact fun z=>nomatch z);exact⟨by rw[h2];exact o.g,vs,by rw[h1];exact a,b.same m.g⟩
theorem gR{R:Rp α}[Mono R]{p:Addr}{xs:List α}{m:Res α}(o:Ow R W p xs)(h:EV Er te σ W (sh R) m)(q:(m.bind fun a=>iC xs a).OkE Er fun ys=>∀W',Mu W W' p->Ow R W' p ys->D.nx σ W'.H)(hi:σ[i]? =some (some<|.ref p):=by rfl):bt (eO K "list" aF (bL i)<|ak te aQ) D σ W.H:=by
 obtain⟨vs,h1,h2⟩:=o.h;refine⟨.ref p,hi,.inl ⟨rfl,vs,Fe h1⟩,h W (.refl _) _<|(CA q).imp fun a ka v W2 e2 hv=>?_⟩;obtain⟨h3,h4⟩:=aW ka;have hg:=(o.mono e2).g;refine⟨p,vs,v,rfl,rfl,e2.h _ _ h1,by rw[h2.1,E6];unfold Mi.cap at h3;omega,h4 (W2.mut p (.lst<|vs++[v]) hg) (.of e2 hg) ⟨hg,_,aG,(h2.same e2.g).snoc hv⟩⟩
theorem LR.set{R:Rp α}{H:Hp}{as:List α}{vs:List V}{a:α}{v:V}(h:LR R H as vs)(r:R H a v)(j:Nat):LR R H (as.set j a) (vs.set j v):=⟨by simp[h.1],fun i x m e1 e2=>by
 rw[List.getElem?_set]at e1 e2;by_cases z:j=i
 ·rw[if_pos z]at e1 e2;split at e1
  ·split at e2;·cases e1;cases e2;exact r
   ·cases e2
  ·cases e1
 ·rw[if_neg z]at e1 e2;exact h.2 i x m e1 e2⟩
theorem qa{R:Rp α}[Mono R]{p:Addr}{xs:List α}{m:Res α}{mi:Res Int}(o:Ow R W p xs)(h:EV Er te σ W (sh R) m)(hj:EV Er ti σ W (sh isI) mi)(q:(m.bind fun a=>mi.bind fun j=>n6 xs j a).OkE Er fun ys=>∀W',Mu W W' p->Ow R W' p ys->D.nx σ W'.H)(hi:σ[i]? =some (some<|.ref p):=by rfl):bP te (zW (bL i) ti xP) D σ W.H:=by
 obtain⟨vs,h1,h2⟩:=o.h;refine h W (.refl _) _<|(CA q).imp fun a ka v W2 e2 hv=>⟨.ref p,hi,hj W2 e2 _<|(CA ka).imp fun j kj x W3 e3 hx=>?_⟩;cases hx;obtain⟨l,h3,h4⟩:=fz<|CA kj;have e:=e2.trans e3;have hg:=(o.mono e).g;exact⟨p,vs,j,l,rfl,rfl,e.h _ _ h1,by rw[h2.1];exact h3,h4 (W3.mut p (.lst<|vs.set l v) hg) (.of e hg) ⟨hg,_,aG,(h2.same e.g).set (Cz (R:=R) e3.g hv) l⟩⟩
def oi{S:Type}(W:Wd)(Iv:S->Wd->St->Prop)(P:S->Prop):St->Hp->Prop:=fun σ' H'=>∃s' W',W'.H=H'/\Same W.G W'.G/\Iv s' W' σ'/\P s'
theorem lj{S:Type}{f:α->S->Res S}{xs:List α}{i:Nat}{a:α}{s:S}(h:xs[i]? =some a):bR f (xs.drop i) s=(f a s).bind fun s=>bR f (xs.drop<|i+1) s:=by
 obtain⟨hi,e⟩:=CL.mp h;rw[Ez hi,e];rfl
theorem oM{S:Type}{wi:TI}{tb:TS}{R:Rp α}{m:Res (List α)}{f:α->S->Res S}{s0:S}{P:S->Prop}(Iv:S->Wd->St->Prop)(hi:IV Er wi σ W R m)(q:(m.bind fun xs=>bR f xs s0).OkE Er P)
  (h0:∀W1,Ext W W1->Iv s0 W1 σ)
  (hs:∀Wb W1 W2 a v s σ1 P',Same W.G W1.G->Same Wb.G W1.G->Iv s W1 σ1->Ext W1 W2->R W2.G a v->(f a s).OkE Er P'->g v σ1 W2.H fun σ2 H2=>tb {D with nx:=oi Wb Iv P',ct:=oi Wb Iv P',bk:=D.nx} σ2 H2)
  (hd:∀s W1 σ1,Same W.G W1.G->Iv s W1 σ1->P s->D.nx σ1 W1.H):sL wi g tb D σ W.H:=by
 refine hi W (.refl _) _<|(CA q).imp fun xs kx J W1 e1 hy=>?_;refine⟨fun i n σ' H'=>n=xs.length-i/\i<=xs.length/\∃s' W',W'.H=H'/\Same W1.G W'.G/\Iv s' W' σ'/\(bR f (xs.drop i) s').OkE Er P,⟨xs.length,by simp,by simp,s0,W1,rfl,.refl _,h0 W1 e1,by simpa using kx⟩,?_⟩;rintro i n σ1 H1 ⟨rfl,hi1,s,W2,rfl,e2,iv,k⟩;by_cases hlt:i<xs.length
 ·obtain⟨a,ha⟩:∃a,xs[i]? =some a:=⟨xs[i],by simp[hlt]⟩
  obtain⟨h1,h2⟩:=(hy W2 e2).1 i a ha;refine .inr ⟨h1,oi W1 Iv fun s'=>(bR f (xs.drop<|i+1) s').OkE Er P,fun σ' H'⟨s',W',z1,z2,z3,z4⟩=>⟨xs.length-(i+1),by omega,rfl,hlt,s',W',z1,z2,z3,z4⟩,fun x H' hx=>?_⟩;obtain⟨W3,rfl,e3,rx⟩:=h2 x H' hx;rw[lj ha]at k;exact hs W1 W2 W3 a x s σ1 (fun s'=>(bR f (xs.drop<|i+1) s').OkE Er P) (e1.g.trans e2) e2 iv e3 rx<|CA k
 ·have e:i=xs.length:=by omega
  subst e;rw[FK]at k;exact .inl ⟨(hy W2 e2).2,hd s W2 σ1 (e1.g.trans e2) iv k⟩
theorem rC{S:Type}{f:α->S->Res (Fl γ S)}{xs:List α}{i:Nat}{a:α}{s:S}(h:xs[i]? =some a):dO f (xs.drop i) s=(f a s).bind (tJ<|dO f<|xs.drop<|i+1):=by
 obtain⟨hi,e⟩:=CL.mp h;rw[Ez hi,e];rfl
theorem qb{S:Type}{wi:TI}{tb:TS}{R:Rp α}{m:Res (List α)}{f:α->S->Res (Fl γ S)}{s0:S}{P:Fl γ S->Prop}(Iv:S->Wd->St->Prop)(hi:IV Er wi σ W R m)(q:(m.bind fun xs=>dO f xs s0).OkE Er P)
  (h0:∀W1,Ext W W1->Iv s0 W1 σ)
  (hs:∀Wb W1 W2 a v s σ1 P',Same W.G W1.G->Same Wb.G W1.G->Iv s W1 σ1->Ext W1 W2->R W2.G a v->(∀r,P' (.rt r)->P (.rt r))->(f a s).OkE Er P'->g v σ1 W2.H fun σ2 H2=>tb {D with nx:=oi Wb Iv fun s'=>P'<|.nx s',ct:=oi Wb Iv fun s'=>P'<|.nx s',bk:=D.nx} σ2 H2)
  (hd:∀s W1 σ1,Same W.G W1.G->Iv s W1 σ1->P (.nx s)->D.nx σ1 W1.H):sL wi g tb D σ W.H:=by
 refine hi W (.refl _) _<|(CA q).imp fun xs kx J W1 e1 hy=>?_;refine⟨fun i n σ' H'=>n=xs.length-i/\i<=xs.length/\∃s' W',W'.H=H'/\Same W1.G W'.G/\Iv s' W' σ'/\(dO f (xs.drop i) s').OkE Er P,⟨xs.length,by simp,by simp,s0,W1,rfl,.refl _,h0 W1 e1,by simpa using kx⟩,?_⟩;rintro i n σ1 H1 ⟨rfl,hi1,s,W2,rfl,e2,iv,k⟩;by_cases hlt:i<xs.length
 ·obtain⟨a,ha⟩:∃a,xs[i]? =some a:=⟨xs[i],by simp[hlt]⟩
  obtain⟨h1,h2⟩:=(hy W2 e2).1 i a ha;refine .inr ⟨h1,oi W1 Iv fun s'=>(dO f (xs.drop<|i+1) s').OkE Er P,fun σ' H'⟨s',W',z1,z2,z3,z4⟩=>⟨xs.length-(i+1),by omega,rfl,hlt,s',W',z1,z2,z3,z4⟩,fun x H' hx=>?_⟩;obtain⟨W3,rfl,e3,rx⟩:=h2 x H' hx;rw[rC ha]at k;exact hs W1 W2 W3 a x s σ1 (fun fl=>match fl with| .nx s'=>(dO f (xs.drop<|i+1) s').OkE Er P| .bk s'=>P (.nx s')| .rt r=>P<|.rt r) (e1.g.trans e2) e2 iv e3 rx (fun r h=>h) ((CA k).imp fun fl h=>by cases fl<;>exact h)
 ·have e:i=xs.length:=by omega
  subst e;rw[FK]at k;exact .inl ⟨(hy W2 e2).2,hd s W2 σ1 (e1.g.trans e2) iv k⟩
section
variable{r:TS}
theorem aq{σ':V->St}{R:Rw α}{m:Res α}(h:EV Er te σ W R m)(q:m.OkE Er fun a=>∀v W',Ext W W'->R W' a v->r D (σ' v) W'.H)(hσ:∀v,σ.set i (some v)=σ' v:=by intro _;rfl):fk (bP te<|aV i) r D σ W.H:=eH (D:={D with nx:=r D}) h q hσ
theorem dv{σ':Addr->St}{R:Rp α}{m:Res (List α)}(h:EVo Er te σ W R m)(q:m.OkE Er fun a=>∀p W',Ext W W'->W.H p=none->Ow R W' p a->r D (σ' p) W'.H)(hσ:∀p,σ.set i (some<|.ref p)=σ' p:=by intro _;rfl):fk (bP te<|aV i) r D σ W.H:=wk (D:={D with nx:=r D}) h q hσ
theorem dE{R:Rw α}{m:Res α}(h:EV Er te σ W R m)(q:m.OkE Er fun a=>∀v W',Ext W W'->R W' a v->g v σ W'.H (r D)):fk (bP te g) r D σ W.H:=h W (.refl _) _ q
theorem dW{c:TT}{m:Res Bool}(h:TV Er c σ W m)(q:m.OkE Er fun b=>∀W',Ext W W'->if b=true then t {D with nx:=r D} σ W'.H else u {D with nx:=r D} σ W'.H):fk (iY c t u) r D σ W.H:=h W (.refl _) _ q
theorem dF{S:Type}{c:TT}{m:Res Bool}{mA mB:Res S}{P:S->Prop}(Iv:S->Wd->St->Prop)(h:TV Er c σ W m)(q:(m.bind fun b=>if b then mA else mB).OkE Er P)
  (hA:∀W'(N:St->Hp->Prop),Ext W W'->(∀s W1 σ1,Same W.G W1.G->Iv s W1 σ1->P s->N σ1 W1.H)->mA.OkE Er P->t {D with nx:=N} σ W'.H)
  (hB:∀W'(N:St->Hp->Prop),Ext W W'->(∀s W1 σ1,Same W.G W1.G->Iv s W1 σ1->P s->N σ1 W1.H)->mB.OkE Er P->u {D with nx:=N} σ W'.H)
  (hd:∀s W1 σ1,Same W.G W1.G->Iv s W1 σ1->P s->r D σ1 W1.H):fk (iY c t u) r D σ W.H:=mf (D:={D with nx:=r D}) Iv h q hA hB hd
theorem tT{R:Rp α}[Mono R]{p:Addr}{xs:List α}{m:Res α}(o:Ow R W p xs)(h:EV Er te σ W (sh R) m)(q:(m.bind fun a=>iC xs a).OkE Er fun ys=>∀W',Mu W W' p->Ow R W' p ys->r D σ W'.H)(hi:σ[i]? =some (some<|.ref p):=by rfl):fk (bt<|eO K "list" aF (bL i)<|ak te aQ) r D σ W.H:=gR (D:={D with nx:=r D}) o h q hi
theorem dh{S:Type}{wi:TI}{tb:TS}{R:Rp α}{m:Res (List α)}{f:α->S->Res S}{s0:S}{P:S->Prop}(Iv:S->Wd->St->Prop)(hi:IV Er wi σ W R m)(q:(m.bind fun xs=>bR f xs s0).OkE Er P)
  (h0:∀W1,Ext W W1->Iv s0 W1 σ)
  (hs:∀Wb W1 W2 a v s σ1 P',Same W.G W1.G->Same Wb.G W1.G->Iv s W1 σ1->Ext W1 W2->R W2.G a v->(f a s).OkE Er P'->g v σ1 W2.H fun σ2 H2=>tb {D with nx:=oi Wb Iv P',ct:=oi Wb Iv P',bk:=r D} σ2 H2)
  (hd:∀s W1 σ1,Same W.G W1.G->Iv s W1 σ1->P s->r D σ1 W1.H):fk (sL wi g tb) r D σ W.H:=oM (D:={D with nx:=r D}) Iv hi q h0 hs hd
theorem fe{S:Type}{wi:TI}{tb:TS}{R:Rp α}{m:Res (List α)}{f:α->S->Res (Fl γ S)}{s0:S}{P:Fl γ S->Prop}(Iv:S->Wd->St->Prop)(hi:IV Er wi σ W R m)(q:(m.bind fun xs=>dO f xs s0).OkE Er P)
  (h0:∀W1,Ext W W1->Iv s0 W1 σ)
  (hs:∀Wb W1 W2 a v s σ1 P',Same W.G W1.G->Same Wb.G W1.G->Iv s W1 σ1->Ext W1 W2->R W2.G a v->(∀r,P' (.rt r)->P (.rt r))->(f a s).OkE Er P'->g v σ1 W2.H fun σ2 H2=>tb {D with nx:=oi Wb Iv fun s'=>P'<|.nx s',ct:=oi Wb Iv fun s'=>P'<|.nx s',bk:=r D} σ2 H2)
  (hd:∀s W1 σ1,Same W.G W1.G->Iv s W1 σ1->P (.nx s)->r D σ1 W1.H):fk (sL wi g tb) r D σ W.H:=qb (D:={D with nx:=r D}) Iv hi q h0 hs hd
end
theorem cw{S:Type}{Wb W:Wd}{Iv:S->Wd->St->Prop}{P:S->Prop}(s:S)(hs:Same Wb.G W.G)(iv:Iv s W σ)(hq:P s):oi Wb Iv P σ W.H:=⟨s,W,rfl,hs,iv,hq⟩
end
end Wb
namespace L2
open PySem PySem.Spec PyProof.Rows
section
variable{X:Cx}{K:CF}{w:D6}
theorem nq{ns:List Bool}:∀{us:List CD},Vals (ns.map N6) us->LSm.BoolsAre us ns:=by
 induction ns with
 |nil=>intro us r;cases r;exact .nil
 |cons b r ih=>intro us h;cases h with|cons h1 h2=>cases h1;exact .cons b<|ih h2
theorem rD(hc:X.calm=true)(hK:X.K=K):dC X (.builtin "all") (fun xs H Q=>∃(p:Addr)(bs:List Bool),xs=[.ref p]/\SqL K H p (bs.map N6)/\Q (.bl<|bs.all id) H):=by
 subst hK;intro pins s σ H xs us Q I r h;obtain⟨p,bs,rfl,hq,q⟩:=h;obtain⟨u,rfl,rx⟩:=f9 r;cases rx;obtain⟨its,r',pl,hz⟩:=I.list hq;have hb:=nq r';have hl:=pl.isList;have hlt:p<s.heap.objs.size:=by obtain⟨_,e,_⟩:=hl;exact CP e
 refine call_all_walk<|GD hl ?_;refine⟨s.heap.objs.size,[s.heap.objs.size,p],[s.heap.objs.size],its.toArray.size,_,_,fun i=>(bs[i]?).getD true,rfl,Walks.list (A:=X.A.in1) (I.ok.hd hc) _ p (D0 hlt) its.toArray,
  ⟨⟨_,CM _ rfl,rfl,rfl⟩,hl.push _⟩,fun i v s' Q' E' hP hQ=>?_,fun h' tk hk=>?_⟩
 ·obtain⟨b,e,rfl⟩:=hb.get i v (by simpa using hP);simp only[e,GY]at hQ;exact Fy hQ
 ·have e:((DP its.toArray.size).all fun i=>(bs[i]?).getD true)=bs.all id:=by
   rw[CY,hb.length];exact LSm.range_all bs
  rw[e];exact⟨.bl _,H,I.kept<|LSm.kept_iter hk,rfl,q⟩
end
end L2
namespace Wb
open PySem L2 Mi
variable{Er:Nat->Prop}
section
variable{α β γ δ:Type}{t ta tb tc:TE}{σ:St}{W W0 W':Wd}{K:CF}{w:D6}
theorem qc{a n r:Int}(hc:0<=n/\n<=1000000/\a.natAbs<2^64)(hr:a^n.toNat=r):EV Er (df (rI zZ fun i j=>.int<|i^j.toNat) (tC<|.int a)<|tC<|.int n) σ W (sh isI) (.ok r):=fun W1 e1 Q k=>⟨a,n,rfl,rfl,hc,by show Q (.int<|a^n.toNat) W1.H;rw[hr];exact k _ W1 (.refl _) rfl⟩
def isScr(K:CF):Rp (List Int):=fun H ns v=>∃a,v=.ref a/\SqL K H a (ns.map FO)
instance zkeep17:Mono (isScr K):=⟨fun e⟨a,h1,h2⟩=>⟨a,h1,e.seq h2⟩⟩
theorem ll{ma:Res (List Int)}(ha:EV Er ta σ W (sh<|isScr K) ma):EV Er (dP (fun xs H Q=>∃x n,xs=[x]/\oA K x H n/\Q (.int n) H)<|ak ta aQ) σ W (sh isI) (ma.bind fun a=>.ok (a.length:Int)):=fun W1 e1 Q k=>
 ha W1 e1 _ ((CA k).imp fun a ka x W2 e2 hx=>by
  obtain⟨p,rfl,h1⟩:=hx;exact⟨_,a.length,rfl,.inl ⟨_,W2.ok.seq h1,by simp⟩,ka _ W2 e2 rfl⟩)
theorem tU{ma:Res (List Int)}{mb:Res Int}(ha:EV Er ta σ W (sh<|isScr K) ma)(hb:EV Er tb σ W (sh isI) mb):EV Er (df (cn K) ta tb) σ W (sh isI) (ma.bind fun a=>mb.bind fun b=>fA a b):=
 rq ha hb fun W a b x y Q hx hy k=>by
  cases hy;obtain⟨p,rfl,h1⟩:=hx;obtain⟨c,h4,h5⟩:=fz k;have lr:LR isI W.G a (a.map FO):=⟨by simp,fun i v m e1 e2=>by rw[CQ,e2]at e1;cases e1;rfl⟩
  obtain⟨z,h6,h7⟩:=q0 lr h4;exact⟨p,_,b,z,rfl,rfl,W.ok.seq h1,h6,h5 _ W (.refl _) h7⟩
theorem qd{ma:Res Bool}(ha:EV Er ta σ W (sh isB) ma):EV Er (dP (fun xs H Q=>(∃i,xs=[.int i]/\Q (.int i) H)\/∃k,xs=[.bl k]/\Q (.int (if k then 1 else 0)) H)<|ak ta aQ) σ W (sh isI) (ma.bind fun a=>.ok (if a then(1:Int)else 0)):=fun W1 e1 Q k=>
 ha W1 e1 _ ((CA k).imp fun a ka x W2 e2 hx=>by cases hx;exact .inr ⟨a,rfl,ka _ W2 e2 rfl⟩)
theorem oN{R:Rp α}{W1 W2:Wd}{xs:List α}{vs:List V}{Q:VK}(h:LR R W2.G xs vs)(e:Ext W1 W2)(k:∀p W2,Ext W1 W2->W1.H p=none->Ow R W2 p xs->Q (.ref p) W2.H)(r:Addr)(hr:W2.H r=none):Q (.ref r) (cI W2.H r<|.lst vs):=
 k r (W2.mut r (.lst vs)<|W2.gnone hr) (e.trans<|.own _ hr) (bg e.h hr) ⟨W2.gnone hr,vs,aG,h⟩
theorem tV{R:Rp α}{ma:Res (List α)}(ha:EV Er ta σ W (pk R) ma):EVo Er (dP (fun xs H Q=>∃p ys,xs=[.ref p]/\(SqL K H p ys\/SqT K H p ys)/\∀l,H l=none->Q (.ref l) (cI H l<|.lst ys))<|ak ta aQ) σ W R ma:=fun W1 e1 Q k=>
 ha W1 e1 _ (k.imp fun a ka x W2 e2 hx=>by
  obtain⟨p,vs,rfl,h1,h2⟩:=hx;exact⟨p,vs,rfl,.inl (Fe h1),fun l hl=>oN h2 e2 ka l hl⟩)
theorem LR.ints{H:Hp}{ns:List Int}{vs:List V}(h:LR isI H ns vs):vs=ns.map FO:=by
 refine EW fun i=>?_;rw[CQ];cases e:ns[i]? with
 |none=>rw[Eg]at e;rw[Eg.mpr (by rw[h.1];exact e)];rfl
 |some m=>obtain⟨v,a,b⟩:=h.get e;rw[a];cases b;rfl
theorem LR.bools{H:Hp}{ns:List Bool}{vs:List V}(h:LR isB H ns vs):vs=ns.map N6:=by
 refine EW fun i=>?_;rw[CQ];cases e:ns[i]? with
 |none=>rw[Eg]at e;rw[Eg.mpr (by rw[h.1];exact e)];rfl
 |some m=>obtain⟨v,a,b⟩:=h.get e;rw[a];cases b;rfl
theorem yH{ma:Res (List Int)}(ha:EV Er ta σ W (pk isI) ma):EV Er (dP (fun xs H Q=>∃(p:Addr)(ns:List Int),xs=[.ref p]/\SqL K H p (ns.map FO)/\Q (.int ns.sum) H)<|ak ta aQ) σ W (sh isI) (ma.bind fun a=>.ok a.sum):=fun W1 e1 Q k=>
 ha W1 e1 _ ((CA k).imp fun a ka x W2 e2 hx=>by
  obtain⟨p,vs,rfl,h1,h2⟩:=hx;exact⟨p,a,rfl,Fe (by rw[h1,h2.ints]),ka _ W2 e2 rfl⟩)
theorem yI{ma:Res (List Bool)}(ha:EV Er ta σ W (pk isB) ma):EV Er (dP (fun xs H Q=>∃(p:Addr)(bs:List Bool),xs=[.ref p]/\SqL K H p (bs.map N6)/\Q (.bl<|bs.all id) H)<|ak ta aQ) σ W (sh isB) (ma.bind fun a=>.ok<|a.all id):=fun W1 e1 Q k=>
 ha W1 e1 _ ((CA k).imp fun a ka x W2 e2 hx=>by
  obtain⟨p,vs,rfl,h1,h2⟩:=hx;exact⟨p,a,rfl,Fe (by rw[h1,h2.bools]),ka _ W2 e2 rfl⟩)
theorem tW{f:α->V}{g:β->Key}[DecidableEq β](hg:∀a b,g a=g b->a=b)(kvs:List (β×α))(k:β):gK (kvs.map fun p=>(g p.1,f p.2)) (g k)=(look kvs k).map f:=by
 induction kvs with
 |nil=>rfl
 |cons p r ih=>
  unfold look at ih ⊢;rw[Dk];by_cases z:p.1=k;·rw[fX (by rw[z]),List.find?_cons_of_pos (by simpa using z)];rfl
  ·rw[fY<|fun e=>z<|hg _ _ e,ih,List.find?_cons_of_neg (by simpa using z)]
theorem qe{R:Rp α}{Rk:Rp β}[DecidableEq β]{d:Addr}{kv:List (Key×V)}{kvs:List (β×α)}{f:α->V}{g:β->Key}(hg:∀a b,g a=g b->a=b)(hf:∀H a,R H a<|f a)(hk:∀H b v,Rk H b v->v=kV (g b))(D:DictK K w d kv)(e:kv=kvs.map fun p=>(g p.1,f p.2)){m:Res β}(h:EV Er t σ W (sh Rk) m):
  EV Er (aR K w (tC<|.ref d) t) σ W (sh R) (m.bind fun k=>getD kvs k):=fun W1 e1 Q k=>
 h W1 e1 _ ((CA k).imp fun b kb v W2 e2 hv=>by
  obtain⟨a,h1,h2⟩:=fz kb;refine⟨d,kv,g b,f a,rfl,D,hk _ _ _ hv,?_,h2 _ W2 e2 (hf _ _)⟩;rw[e,tW hg,h1];rfl)
theorem BA:∀a b:Tx,(FF (sOf a):Key)=FF (sOf b)->a=b:=fun a b e=>pS<|Mp e
theorem BB:∀a b:Int,(FE a:Key)=FE b->a=b:=fun a b e=>Mo e
theorem rE{d:Addr}{kv:List (Key×V)}{kvs:List (Tx×Int)}(D:DictK K w d kv)(e:kv=kvs.map fun p=>(FF<|sOf p.1,FO p.2)){m:Res Tx}(h:EV Er t σ W (sh isS) m):EV Er (aR K w (tC<|.ref d) t) σ W (sh isI) (m.bind fun k=>getD kvs k):=qe (R:=isI) (f:=FO) (g:=fun a=>FF<|sOf a) BA (fun _ _=>rfl) (fun _ _ _ h=>h) D e h
theorem rF{d:Addr}{kv:List (Key×V)}{kvs:List (Int×Tx)}(D:DictK K w d kv)(e:kv=kvs.map fun p=>(FE p.1,GW<|sOf p.2)){m:Res Int}(h:EV Er t σ W (sh isI) m):EV Er (aR K w (tC<|.ref d) t) σ W (sh isS) (m.bind fun k=>getD kvs k):=qe (R:=isS) (f:=fun a=>GW<|sOf a) (g:=fun a=>FE a) BB (fun _ _=>rfl) (fun _ _ _ h=>h) D e h
theorem jK{ma:Res Int}{mb:Res (List Int)}(ha:EV Er ta σ W (sh isI) ma)(hb:EV Er tb σ W (pk isI) mb):EV Er (df (fL K true) ta tb) σ W (sh isB) (ma.bind fun a=>mb.bind fun b=>.ok<|!b.contains a):=
 rq ha hb fun W a b x y Q hx hy k=>by
  cases hx;obtain⟨p,vs,rfl,h1,h2⟩:=hy;refine⟨p,vs,rfl,.inl<|Fe h1,rfl,by rw[h2.ints];simp[L2.flatV],?_⟩;have e:AO (.int a) vs=b.contains a:=by
   rw[h2.ints];unfold AO;rw[List.any_map,Fw];simp[L2.eqV]
   try exact⟨fun⟨x,h,e⟩=>by subst e;exact h,fun h=>⟨a,h,rfl⟩⟩
  rw[if_pos rfl,e];exact k _ W (.refl _) rfl
theorem tX{R:Rp α}[Mono R]{ma:Res (List α)}(ha:EV Er ta σ W (pk R) ma):EV Er (dP (fun xs H Q=>∃p ys,xs=[.ref p]/\((SqL K H p ys/\∀l,H l=none->Q (.ref l) (cI H l<|.tup ys))\/(SqT K H p ys/\Q (.ref p) H)))<|ak ta aQ) σ W (sh<|isT3 K R R R) (ma.bind fun a=>yD a):=fun W1 e1 Q k=>
 ha W1 e1 _ ((CA k).imp fun a ka x W2 e2 hx=>by
  obtain⟨p,vs,rfl,h1,h2⟩:=hx
  match a,ka,h2 with
  | [a,b,c],ka,h2=>
   match vs,h2.1,h2,h1 with
   | [x,y,z],_,h2,h1=>
    refine⟨p,_,rfl,.inl ⟨Fe h1,fun l hl=>ka (.ref l) (W2.new l<|.tup [x,y,z]) (e2.trans<|.new _ hl) ⟨l,x,y,z,rfl,KQ aG,?_,?_,?_⟩⟩⟩;·exact Cz (Gg _ hl).g (h2.2 0 x a rfl rfl)
    ·exact Cz (Gg _ hl).g (h2.2 1 y b rfl rfl)
    ·exact Cz (Gg _ hl).g (h2.2 2 z c rfl rfl))
def EqK(K:CF)(H:Hp):Nat->V->V->Prop
  |0,v,u=>v=u/\flat v=true
  |n+1,v,u=>(v=u/\flat v=true)\/ ∃p q xs ys,v= .ref p/\u= .ref q/\((H p=some (.lst xs)/\H q=some (.lst ys))\/(SqT K H p xs/\SqT K H q ys))/\xs.length=ys.length/\
      ∀(i:Nat)(x y:V),xs[i]? =some x->ys[i]? =some y->EqK K H n x y
theorem EqK.same{H H':Hp}(e:Same H H'):∀{n:Nat}{v u:V},EqK K H n v u->EqK K H' n v u
 |0,_,_,h=>h
 |n+1,_,_,h=>by
  rcases h with h|⟨p,q,xs,ys,h1,h2,h3,h4,h5⟩
  ·exact .inl h
  ·refine .inr ⟨p,q,xs,ys,h1,h2,?_,h4,fun i x y e1 e2=>EqK.same e<|h5 i x y e1 e2⟩;rcases h3 with⟨a,b⟩|⟨a,b⟩
   ·exact .inl ⟨e _ _ a,e _ _ b⟩
   ·exact .inr ⟨EA e a,EA e b⟩
theorem EqK.flat{H:Hp}{n:Nat}{v:V}(h:L2.flat v=true):EqK K H n v v:=by cases n with|zero=>exact⟨rfl,h⟩|succ n=>exact .inl ⟨rfl,h⟩
class EqR(K:CF){α:Type}(R:Rp α)(n:outParam Nat):Prop where
 eq:∀H a v u m,n<=m->R H a v->R H a u->EqK K H m v u
instance zkeep18:EqR K isI 0:=⟨fun H a v u m _ h1 h2=>by cases h1;cases h2;exact .flat rfl⟩
instance zkeep19:EqR K isS 0:=⟨fun H a v u m _ h1 h2=>by cases h1;cases h2;exact .flat rfl⟩
instance zkeep23{R:Rp α}{n:Nat}[EqR K R n]:EqR K (isL R) (n+1):=⟨fun H a v u m hm⟨p,vs,h1,h2,h3⟩⟨q,us,g1,g2,g3⟩=>by
 cases m with
 |zero=>omega
 |succ m=>
  refine .inr ⟨p,q,vs,us,h1,g1,.inl ⟨h2,g2⟩,by rw[h3.1,g3.1],fun i x y e1 e2=>?_⟩;obtain⟨b,hb,rb⟩:=h3.got e1;exact EqR.eq H b x y m (by omega) rb (g3.2 i y b e2 hb)⟩
instance zkeep25{R1:Rp α}{R2:Rp β}{R3:Rp γ}{n k l:Nat}[EqR K R1 n][EqR K R2 k][EqR K R3 l]:EqR K (isT3 K R1 R2 R3) (max n (max k l)+1):=⟨fun H a v u m hm⟨p,x,y,z,h0,h,h1,h2,h3⟩⟨q,x',y',z',g0,g,g1,g2,g3⟩=>by
 cases m with
 |zero=>omega
 |succ m=>
  refine .inr ⟨p,q,_,_,h0,g0,.inr ⟨h,g⟩,rfl,fun i w w' e1 e2=>?_⟩
  match i,e1,e2 with
  |0,e1,e2=>cases e1;cases e2;exact EqR.eq H _ _ _ m (by omega) h1 g1
  |1,e1,e2=>cases e1;cases e2;exact EqR.eq H _ _ _ m (by omega) h2 g2
  |2,e1,e2=>cases e1;cases e2;exact EqR.eq H _ _ _ m (by omega) h3 g3⟩
end
end Wb
namespace L2
open PySem PySem.Spec PyProof.Rows
section
variable{X:Cx}{K:CF}{w:D6}{o e:Expr}{to:TE}{t:TA}{apos cpos:Pos}
def Ai(K:CF):V->List V->Hp->VK->Prop:=fun x xs H Q=>∃(p:Addr)(ys:List (List Nat)),x=.str (sOf [])/\xs=[.ref p]/\SqL K H p (ys.map fun y=>GW<|sOf y)/\ys.flatten.length<=100000/\Q (.str<|sOf ys.flatten) H
def Aj:V->List V->Hp->VK->Prop:=fun x xs H Q=>∃a b,x=.str a/\xs=[.str b]/\0<=HE a b/\Q (.int<|HE a b) H
abbrev BC(X:Cx)(cpos:Pos)(e:Expr):Prop:=((backTo cpos<|starEach [e] X.env).all (fun x=> !x.1)&&(backToKw cpos<|keywordEach [] X.env).all (fun x=>x.1.isSome)&&decide ([e].length+([]:List IL).length+(if([]:List IL).isEmpty then 0 else 1)<30))=true
theorem jL(h:X.K=K):dC X (.type "tuple") (fun xs H Q=>∃p ys,xs=[.ref p]/\((SqL K H p ys/\∀l,H l=none->Q (.ref l) (cI H l<|.tup ys))\/(SqT K H p ys/\Q (.ref p) H))):=h▸kK
theorem jM(h:X.K=K)(ho:PE X o to)(ha:PA X [e] t)(hbase:attributeBase o "join" X.env (eval o X.env)=eval o X.env:=by rfl)(hfew:BC X cpos e:=by rfl)(hline:(apos.endLine==cpos.line)=true:=by rfl)(hs:starEach [e] X.env=(false,eval e X.env)::starEach [] X.env:=by rfl)(hplain:(backTo cpos<|starEach [] X.env).any (·.1)=false:=by rfl):
  PE X (.Call (.Attribute o "join" apos) [e] [] cpos) (eO K "str" (Ai K) to t):=oH (K:=K) h IS PySem.F.slot_str_join PySem.F.type_str_join (tx (K:=K) h) ho ha hbase hfew hline hs hplain
theorem ff(h:X.K=K)(hc:X.calm=true)(ho:PE X o to)(ha:PA X [e] t)(hbase:attributeBase o "index" X.env (eval o X.env)=eval o X.env:=by rfl)(hfew:BC X cpos e:=by rfl)(hline:(apos.endLine==cpos.line)=true:=by rfl)(hs:starEach [e] X.env=(false,eval e X.env)::starEach [] X.env:=by rfl)(hplain:(backTo cpos<|starEach [] X.env).any (·.1)=false:=by rfl):
  PE X (.Call (.Attribute o "index" apos) [e] [] cpos) (eO K "str" Aj to t):=oH (K:=K) h IS PySem.F.slot_str_index PySem.F.type_str_index (sX hc) ho ha hbase hfew hline hs hplain
theorem d6(h:X.K=K)(ho:PE X o to)(ha:PA X [e] t)(hbase:attributeBase o "append" X.env (eval o X.env)=eval o X.env:=by rfl)(hfew:BC X cpos e:=by rfl)(hline:(apos.endLine==cpos.line)=true:=by rfl)(hs:starEach [e] X.env=(false,eval e X.env)::starEach [] X.env:=by rfl)(hplain:(backTo cpos<|starEach [] X.env).any (·.1)=false:=by rfl):
  PE X (.Call (.Attribute o "append" apos) [e] [] cpos) (eO K "list" aF to t):=oH (K:=K) h PySem.F.plainAttrs_list Ja PySem.F.type_list_append qX ho ha hbase hfew hline hs hplain
end
end L2
namespace Wb
open PySem L2 Mi
variable{Er:Nat->Prop}
section
variable{α β γ δ:Type}{t t1 t2 t3 ta tb tc:TE}{σ:St}{W W0 W':Wd}{K:CF}{w:D6}
theorem tY{xs:List α}{ys:List β}{zs:List γ}{i:Nat}{p:α×β×γ}(h:(xs.zip<|ys.zip zs)[i]? =some p):xs[i]? =some p.1/\ys[i]? =some p.2.1/\zs[i]? =some p.2.2:=by
 rw[Ft]at h;obtain⟨h1,h2⟩:=h;rw[Ft]at h2;exact⟨h1,h2.1,h2.2⟩
theorem wm{R1:Rp α}{R2:Rp β}{R3:Rp γ}[Mono R1][Mono R2][Mono R3]{m1:Res (List α)}{m2:Res (List β)}{m3:Res (List γ)}(h1:SV Er t1 σ W K R1 m1)(h2:SV Er t2 σ W K R2 m2)(h3:SV Er t3 σ W K R3 m3):IV Er (xS K<|ak t1<|ak t2<|ak t3 aQ) σ W (isT3 K R1 R2 R3) (m1.bind fun xs=>m2.bind fun ys=>m3.bind fun zs=>.ok<|xs.zip<|ys.zip zs):=fun W1 e1 P k=>
 h1 W1 e1 _ ((CA k).imp fun xs kx v W2 e2 hv=>h2 W2 (e1.trans e2) _ ((CA kx).imp fun ys ky u W3 e3 hu=>h3 W3 ((e1.trans e2).trans e3) _ ((CA ky).imp fun zs kz r W4 e4 hr=>by
  obtain⟨c1,vs,rfl,a1,b1⟩:=N7 hv (e3.trans e4).g;obtain⟨c2,us,rfl,a2,b2⟩:=N7 hu e4.g;obtain⟨c3,rs,rfl,a3,b3⟩:=hr;refine⟨c1,c2,c3,vs,us,rs,rfl,a1 W4<|.refl _,a2 W4<|.refl _,a3 W4<|.refl _,kz _ W4 ((e2.trans e3).trans e4) fun W5 e5=>⟨fun i ab hab=>?_,?_⟩⟩
  ·obtain⟨q1,q2,q3⟩:=tY hab;obtain⟨x,hx,rx⟩:=b1.get q1;obtain⟨y,hy,ry⟩:=b2.get q2;obtain⟨z,hz,rz⟩:=b3.get q3;refine⟨⟨vs,us,rs,x,y,z,a1 W5 e5,a2 W5 e5,a3 W5 e5,hx,hy,hz⟩,fun o H'⟨p,x',y',z',hp,z0,z1,z2,z3,z4⟩=>⟨W5.new p<|.tup [x',y',z'],by rw[z4];rfl,.new _ hp,p,x',y',z',z0,KQ aG,?_,?_,?_⟩⟩
   ·have:=z1 vs<|a1 W5 e5;rw[hx]at this;cases this;exact Cz (e5.trans (Gg _ hp).g) rx
   ·have:=z2 us<|a2 W5 e5;rw[hy]at this;cases this;exact Cz (e5.trans (Gg _ hp).g) ry
   ·have:=z3 rs<|a3 W5 e5;rw[hz]at this;cases this;exact Cz (e5.trans (Gg _ hp).g) rz
  ·refine⟨vs,us,rs,a1 W5 e5,a2 W5 e5,a3 W5 e5,?_⟩;rw[Gp,Gp,b1.1,b2.1,b3.1];omega)))
theorem tZ{ma:Res (List Int)}(ha:EV Er ta σ W (pk isI) ma):EVo Er (dP (fun xs H Q=>∃(p:Addr)(ns:List Int),xs=[.ref p]/\SqL K H p (ns.map FO)/\ns.length<64/\∀(q:Addr)(ns':List Int),H q=none->ns'.Perm ns->ns'.Pairwise (· <= ·)->Q (.ref q) (cI H q<|.lst<|ns'.map FO))<|ak ta aQ) σ W isI (ma.bind fun a=>tK a):=fun W1 e1 Q k=>
 ha W1 e1 _ ((CA k).imp fun a ka x W2 e2 hx=>by
  obtain⟨p,vs,rfl,h1,h2⟩:=hx;obtain⟨h3,h4⟩:=aW ka;refine⟨p,a,rfl,Fe (by rw[h1,h2.ints]),h3,fun q ns' hq hp hs=>?_⟩;rw[rp hp hs];exact oN (vs:=(iD a).map FO) ⟨by simp,fun i v m e1 e2=>by rw[CQ,e2]at e1;cases e1;rfl⟩ e2 h4 q hq)
theorem gc{R1:Rp α}{R2:Rp β}{d:Addr}{x y:V}{a:α}{b:β}(T:∀H,SqT K H d [x,y])(h1:∀H,R1 H a x)(h2:∀H,R2 H b y):EV Er (tC<|.ref d) σ W (sh<|isT2 K R1 R2) (.ok (a,b)):=fun W1 _ Q k=>k _ W1 (.refl _) ⟨d,x,y,rfl,T _,h1 _,h2 _⟩
theorem gI(i:Int):∀H,isI H i (.int i):=fun _=>rfl
end
end Wb
namespace Mi
theorem i5{a b:Int}(h:0<b):kO a b=.ok (a%b):=bq h
theorem nr{a b:Int}(h1:0<b)(h2:b<1073741824):jB a b=.ok (a/b):=bq ⟨h1,h2⟩
theorem jN{a b:Int}(h1: -18446744073709551616<a)(h2:a<18446744073709551616):jA a b=.ok (a*b):=bq<|.inl ⟨h1,h2⟩
theorem u4{a b:Int}(h1: -18446744073709551616<b)(h2:b<18446744073709551616):jA a b=.ok (a*b):=bq<|.inr ⟨h1,h2⟩
theorem gy{α:Type}{xs:List α}{x:α}(h:xs.length<100000):iC xs x=.ok (xs++[x]):=bq h
theorem dX{a b:Tx}(h:a.length+b.length<=100000):fB a b=.ok (a++b):=bq h
theorem wo{α:Type}{a b:List α}(h:a.length+b.length<=100000):yA a b=.ok (a++b):=bq h
theorem wq{a:Tx}(h:a.length<=100000):yC a=.ok (a.length:Int):=bq h
theorem wt{c:Nat}{n:Int}(h0:0<=n)(h1:n<=100000):yB [c] n=.ok (ES n.toNat c):=bq ⟨h0,h1⟩
theorem qf{a:Tx}{lo hi:Option Int}(h:a.length<=100000):rn a lo hi=.ok (cut a lo hi):=bq h
theorem nt{xs:List Tx}(h:xs.flatten.length<=100000):n9 xs=.ok xs.flatten:=bq h
theorem lq{n:Nat}(h:n<=100000):fC (n:Int)=.ok ((DP n).map fun(i:Nat)=>(i:Int)):=by
 unfold fC;rw[bq ⟨by omega,by omega⟩];simp[eY]
theorem mj{α:Type}{xs:List α}{i:Int}(h0:0<=i)(h1:i<xs.length):∃x,fA xs i=.ok x/\xs[i.toNat]? =some x:=by
 obtain⟨h,e⟩:=tH h0 h1;exact⟨xs[i.toNat],by unfold fA;rw[e];rfl,by simp[h]⟩
theorem i6{x:Tx}{i:Int}(h0:0<=i)(h1:i<x.length)(h2:x.length<=100000):∃c,fS x i=.ok [c]/\x[i.toNat]? =some c:=by
 obtain⟨h,e⟩:=tH h0 h1;refine⟨x[i.toNat],?_,by simp[h]⟩;unfold fS;rw[bq h2];show(yz<|sD x i).bind _=_;rw[e];rfl
theorem yJ{x:Tx}{i:Int}(h0:0<=i)(h1:i<x.length)(h2:x.length<=100000):fS x i=.ok [x[i.toNat]?.getD 0]:=by
 obtain⟨c,e,h⟩:=i6 h0 h1 h2;rw[e,h];rfl
theorem u5{α:Type}[DecidableEq α]{a b:α}(h:a=b):Ac a b=.ok true:=if_pos h
theorem u6{xs:List Int}(h:xs.length<64):tK xs=.ok (iD xs):=bq h
theorem cU{α S:Type}{f:α->S->Res S}(I:List α->S->Prop)(xs:List α)(s0:S)(h0:I [] s0)(step:∀pre a post s,xs=pre++a::post->I pre s->∃s',f a s=.ok s'/\I (pre++[a]) s'):
  ∃s,bR f xs s0=.ok s/\I xs s:=by
 have key:∀(post pre:List α)(s:S),xs=pre++post->I pre s->∃s',bR f post s=.ok s'/\I xs s':=by
  intro post
  induction post with
  |nil=>intro pre s e h;rw[F1]at e;subst e;exact⟨s,rfl,h⟩
  |cons a r ih=>
   intro pre s e h;obtain⟨s1,e1,h1⟩:=step pre a r s e h;obtain⟨s2,e2,h2⟩:=ih (pre++[a]) s1 (by rw[e];simp) h1;exact⟨s2,by unfold bR;rw[e1];exact e2,h2⟩
 exact key xs [] s0 rfl h0
theorem iI{α γ:Type}{f:α->Unit->Res (Fl γ Unit)}{g:α->Option γ}(xs:List α)(step:∀a∈xs,f a ()=.ok (match g a with|some r=>.rt r|none=>.nx ())):dO f xs ()=.ok (match xs.findSome? g with|some r=>.rt r|none=>.nx ()):=by
 induction xs with
 |nil=>rfl
 |cons a r ih=>
  unfold dO;rw[step a<|CZ ..];cases h:g a with
  |some z=>simp[h,tJ]
  |none=>simp only[CC,tJ,Hw,h];exact ih fun b hb=>step b<|D7 _ hb
theorem nu{α β:Type}{f:α->Res (Option β)}{g:α->Option β}:∀{xs:List α},(∀x∈xs,f x=.ok (g x))->hU f xs=.ok (xs.filterMap g)
 | [],_=>rfl
 |a::r,h=>by
  unfold hU;rw[h a<|CZ ..,CC,nu fun x hx=>h x<|D7 _ hx,CC,Fi];cases g a<;>rfl
theorem nv{α β:Type}{f:α->Res (Option β)}{g:α->Option β}{xs:List α}(hl:xs.length<=100000)(h:∀x∈xs,f x=.ok (g x)):jD xs f=.ok (xs.filterMap g):=by
 unfold jD;rw[bq hl,CC,nu h]
theorem qg(l:List Nat):((l.map fun c=>[c]):List Tx).flatten=l:=by induction l with|nil=>rfl|cons a r ih=>simp[ih]
theorem ny{α:Type}(l:List α)(k:Nat):cut l none (some (k:Int))=l.take k:=by
 unfold cut sIx;simp only[];rw[if_neg (by omega),DY];simp[List.take_eq_take_iff]
theorem u7{α:Type}(l:List α)(k:Nat):cut l (some (k:Int)) none=l.drop k:=by
 unfold cut sIx;simp only[];rw[if_neg (by omega),DY];by_cases h:k<=l.length;·rw[Nat.min_eq_left h,Fj (by simp)]
 ·rw[Nat.min_eq_right (by omega),GK (by omega),GK (by omega)];simp
theorem eg{x:Tx}{t:Tx}(h:t∈bH x):∃c∈x,t=[c]:=by
 unfold bH at h;obtain⟨c,hc,e⟩:=DU.mp h;exact⟨c,hc,e.symm⟩
theorem wu(a:Int):0<=eE a:=by unfold eE;split<;>omega
section
variable{α β:Type}{P:α->Prop}{Q:β->Prop}
theorem qh{m:Res α}{f:α->Res β}(h:m.Ok fun a=>(f a).Ok Q):(m.bind f).Ok Q:=Res.bind_ok h
theorem vP{c:Prop}[Decidable c]{A B:Res α}(h1:c->A.Ok P)(h2:¬c->B.Ok P):(if decide c=true then A else B).Ok P:=by
 by_cases h:c;·rw[decide_eq_true h];exact h1 h
 ·rw[decide_eq_false h];exact h2 h
theorem okR{a:α}(h:P a):(CK a).Ok P:=h
end
end Mi
namespace L2
open PySem PySem.Spec PyProof.Rows Wb
end L2
namespace L2
open PySem PySem.Spec PyProof.Rows
end L2
namespace Wb
open PySem L2 Mi
variable{Er:Nat->Prop}
end Wb
namespace Mi
inductive Dat where
 |n|b (x:Bool)|i (x:Int)|s (x:Tx)|t (xs:List Dat)|l (xs:List Dat)
noncomputable instance zkeep38:DecidableEq Dat:=fun _ _=>Classical.propDecidable _
def Dat.le:Nat->Dat->Prop
 |0,d=>match d with| .t _=>False| .l _=>False|_=>True
 |k+1,d=>match d with| .t xs=>∀x∈xs,Dat.le k x| .l xs=>∀x∈xs,Dat.le k x|_=>True
open Classical in
noncomputable def Ak(a b:Dat):Res Bool:=if a=b/\a.le 24 then .ok true else .stuck
theorem yK{a b:Dat}(h:a=b)(hl:a.le 24):Ak a b=.ok true:=if_pos ⟨h,hl⟩
def qi(a b:Tx):Res Bool:=.ok<|decide<|a=b
def nz{κ α:Type}[DecidableEq κ](kvs:List (κ×α))(k:κ)(a:α):List (κ×α):=
 if(kvs.any fun kv=>decide<|kv.1=k)=true then kvs.map (fun kv=>if kv.1=k then(kv.1,a)else kv)else kvs++[(k,a)]
end Mi
open Mi.Dat renaming s->Mb
namespace PySem
open Sem (wp)
open AutoSeq1 (wpAny_loadPart')
end PySem
namespace L2
open PySem PySem.Spec PyProof.Rows
end L2
namespace L2
end L2
namespace Wb
open PySem L2 Mi
variable{Er:Nat->Prop}
inductive isU(K:CF)(H:Hp):Dat->V->Prop where
 |n:isU K H .n .non
 |b {x:Bool}:isU K H (.b x) (.bl x)
 |i {x:Int}:isU K H (.i x) (.int x)
 |s {x:Tx}:isU K H (.s x) (.str<|sOf x)
 |t {p:Addr} {xs:List Dat} {vs:List V} (h:SqT K H p vs) (hl:vs.length=xs.length) (r:∀(j:Nat)x v,xs[j]? =some x->vs[j]? =some v->isU K H x v):isU K H (.t xs) (.ref p)
 |l {p:Addr} {xs:List Dat} {vs:List V} (h:H p=some (.lst vs)) (hl:vs.length=xs.length) (r:∀(j:Nat)x v,xs[j]? =some x->vs[j]? =some v->isU K H x v):isU K H (.l xs) (.ref p)
section
variable{α β γ δ:Type}{t t1 t2 t3 t4 ta tb tc td:TE}{σ:St}{W W0 W':Wd}{K:CF}{w:D6}
theorem isU.same{H H':Hp}{d:Dat}{v:V}(e:Same H H')(h:isU K H d v):isU K H' d v:=by
 induction h with
 |n=>exact .n
 |b=>exact .b
 |i=>exact .i
 |s=>exact .s
 |t h hl r ih=>exact .t (EA e h) hl ih
 |l h hl r ih=>exact .l (e _ _ h) hl ih
theorem isU.eqk{H:Hp}:∀(n:Nat)(d:Dat)(v u:V),d.le n->isU K H d v->isU K H d u->EqK K H n v u:=by
 intro n
 induction n with
 |zero=>
  intro d v u hd h1 h2;cases h1 with
  |n=>cases h2;exact .flat rfl
  |b=>cases h2;exact .flat rfl
  |i=>cases h2;exact .flat rfl
  |s=>cases h2;exact .flat rfl
  |t h hl r=>exact hd.elim
  |l h hl r=>exact hd.elim
 |succ n ih=>
  intro d v u hd h1 h2;cases h1 with
  |n=>cases h2;exact .flat rfl
  |b=>cases h2;exact .flat rfl
  |i=>cases h2;exact .flat rfl
  |s=>cases h2;exact .flat rfl
  | @t p xs vs h hl r=>
   cases h2 with
   | @t q _ us h' hl' r'=>
    refine .inr ⟨p,q,vs,us,rfl,rfl,.inr ⟨h,h'⟩,by rw[hl,hl'],fun i x y e1 e2=>?_⟩;have hi:i<xs.length:=by rw[<-hl];exact(CL.mp e1).1
    have e3:xs[i]? =some xs[i]:=CJ hi;exact ih xs[i] x y (hd _<|FL hi) (r i _ x e3 e1) (r' i _ y e3 e2)
  | @l p xs vs h hl r=>
   cases h2 with
   | @l q _ us h' hl' r'=>
    refine .inr ⟨p,q,vs,us,rfl,rfl,.inl ⟨h,h'⟩,by rw[hl,hl'],fun i x y e1 e2=>?_⟩;have hi:i<xs.length:=by rw[<-hl];exact(CL.mp e1).1
    have e3:xs[i]? =some xs[i]:=CJ hi;exact ih xs[i] x y (hd _<|FL hi) (r i _ x e3 e1) (r' i _ y e3 e2)
def yL(K:CF)(R:Rp α)(u:α->Dat):Prop:=∀H a v,R H a v->isU K H (u a) v
theorem lu:yL K isS .s:=fun _ _ _ h=>by cases h;exact .s
theorem xT{R:Rp α}{u:α->Dat}(h:yL K R u):yL K (isL R) (fun xs=>.l<|xs.map u):=fun H xs v⟨p,vs,h0,h1,h2⟩=>by
 subst h0;refine .l h1 (by rw[Dc,h2.1]) fun j x v e1 e2=>?_;rw[CQ]at e1;obtain⟨a,ha,rfl⟩:=DM.mp e1;exact h _ _ _<|h2.2 j v a e2 ha
theorem u9{R1:Rp α}{R2:Rp β}{u1:α->Dat}{u2:β->Dat}(h1:yL K R1 u1)(h2:yL K R2 u2):yL K (isT2 K R1 R2) (fun x=>.t [u1 x.1,u2 x.2]):=fun H a v⟨p,x,y,h0,h,r1,r2⟩=>by
 subst h0;refine .t h rfl fun j d v e1 e2=>?_
 match j,e1,e2 with
 |0,e1,e2=>cases e1;cases e2;exact h1 _ _ _ r1
 |1,e1,e2=>cases e1;cases e2;exact h2 _ _ _ r2
theorem oO{R:Rp α}{u:α->Dat}{m:Res α}(h:yL K R u)(e:EV Er t σ W (sh R) m):EV Er t σ W (sh<|isU K) (m.bind fun a=>.ok<|u a):=fun W1 e1 Q k=>
 e W1 e1 _ ((CA k).imp fun a ka v W2 e2 hv=>ka v W2 e2<|h _ _ _ hv)
def eR(K:CF):Nat->Sp
 |0=>fun _ _ _ _=>False
 |n+1=>fun vs H Q _=>∃v u,vs=[v,u]/\((EqK K H n v u/\∀H',Same H H'->Q (.bl true) H')\/∃x y,v=.str x/\u=.str y/\Q (.bl<|decide<|GW x=GW y) H)
theorem nA[DecidableEq α]{R:Rp α}[Mono R]{n N:Nat}[EqR K R n]{E:XK}{ma mb:Res α}(hn:n<N)(ha:EV Er ta σ W (sh R) ma)(hb:EV Er tb σ W (sh R) mb):EV Er (aN (eR K N) [] E<|ak ta<|ak tb aQ) σ W (sh isB) (ma.bind fun a=>mb.bind fun b=>Ac a b):=fun W1 e1 Q k=>
 ha W1 e1 _ ((CA k).imp fun a ka x W2 e2 hx=>hb W2 (e1.trans e2) _ ((CA ka).imp fun b kb y W3 e3 hy=>by
  unfold Ac at kb;by_cases z:a=b
  ·rw[if_pos z]at kb;subst z;cases N with
   |zero=>omega
   |succ N=>
    refine⟨x,y,rfl,.inl ⟨EqR.eq W3.H a x y N (by omega) (Cz W3.ok<|Cz (R:=R) e3.g hx)<|Cz W3.ok hy,fun H' hs=>?_⟩⟩;exact kb (.bl true) ⟨W3.G,H',W3.ok.trans hs⟩ ⟨e2.g.trans e3.g,(e2.h.trans e3.h).trans hs,fun p hp=>(e2.trans e3).k p hp⟩ rfl
  ·rw[if_neg z]at kb;exact kb.elim))
theorem ua{N:Nat}{E:XK}{ma mb:Res Dat}(hn:24<N)(ha:EV Er ta σ W (sh<|isU K) ma)(hb:EV Er tb σ W (sh<|isU K) mb):EV Er (aN (eR K N) [] E<|ak ta<|ak tb aQ) σ W (sh isB) (ma.bind fun a=>mb.bind fun b=>Ak a b):=fun W1 e1 Q k=>
  ha W1 e1 _ ((CA k).imp fun a ka x W2 e2 hx=>hb W2 (e1.trans e2) _ ((CA ka).imp fun b kb y W3 e3 hy=>by
    unfold Ak at kb;by_cases z:a=b/\a.le 24
    · rw[if_pos z]at kb;obtain⟨z,hz⟩:=z;subst z;cases N with
      |zero=>omega
      | succ N =>
        have up:∀(m n:Nat)(d:Dat),n<=m->d.le n->d.le m:=by
          intro m
          induction m with
          | zero => intro n d h1 h2; have : n = 0 := by omega
                    subst this;exact h2
          | succ m ih =>
            intro n d h1 h2;cases n with
            | zero => cases d with
              |t xs=>exact h2.elim
              |l xs=>exact h2.elim
              |_=>trivial
            | succ n => cases d with
              |t xs=>exact fun x hx=>ih n x (by omega) (h2 x hx)
              |l xs=>exact fun x hx=>ih n x (by omega) (h2 x hx)
              |_=>trivial
        refine⟨x,y,rfl,.inl ⟨isU.eqk N a x y (up N 24 a (by omega) hz) (isU.same W3.ok<|isU.same e3.g hx)<|isU.same W3.ok hy,fun H' hs=>?_⟩⟩;exact kb (.bl true) ⟨W3.G,H',W3.ok.trans hs⟩ ⟨e2.g.trans e3.g,(e2.h.trans e3.h).trans hs,fun p hp=>(e2.trans e3).k p hp⟩ rfl
    ·rw[if_neg z]at kb;exact kb.elim))
theorem ub{N:Nat}{E:XK}{ma mb:Res Tx}(hn:0<N)(ha:EV Er ta σ W (sh isS) ma)(hb:EV Er tb σ W (sh isS) mb):EV Er (aN (eR K N) [] E<|ak ta<|ak tb aQ) σ W (sh isB) (ma.bind fun a=>mb.bind fun b=>qi a b):=fun W1 e1 Q k=>
 ha W1 e1 _ ((CA k).imp fun a ka x W2 e2 hx=>hb W2 (e1.trans e2) _ ((CA ka).imp fun b kb y W3 e3 hy=>by
  cases hx;cases hy;cases N with
  |zero=>omega
  |succ N=>exact⟨_,_,rfl,.inr ⟨_,_,rfl,rfl,by rw[dS];exact kb _ W3 (e2.trans e3) rfl⟩⟩))
theorem qj{D:Ends}{i:Nat}{te:TE}{a:Int}{m:Res Int}{f:Int->Int->Int}{σ':Int->St}(h:EV Er te σ W (sh isI) m)(q:m.OkE Er fun b=>∀W',Ext W W'->D.nx (σ'<|f a b) W'.H)(hi:σ[i]? =some (some<|.int a):=by rfl)(hσ:∀c,σ.set i (some<|.int c)=σ' c:=by intro _;rfl):vX i te (AL f) D σ W.H:=
 ⟨.int a,hi,h W (.refl _) _ (q.imp fun b kb v W' e hv=>by cases hv;exact⟨a,b,rfl,rfl,by have:=kb W' e;rw[<-hσ]at this;exact this⟩)⟩
theorem rG{D:Ends}{r:TS}{i:Nat}{te:TE}{a:Int}{m:Res Int}{f:Int->Int->Int}{σ':Int->St}(h:EV Er te σ W (sh isI) m)(q:m.OkE Er fun b=>∀W',Ext W W'->r D (σ'<|f a b) W'.H)(hi:σ[i]? =some (some<|.int a):=by rfl)(hσ:∀c,σ.set i (some<|.int c)=σ' c:=by intro _;rfl):fk (vX i te<|AL f) r D σ W.H:=qj (D:={D with nx:=r D}) h q hi hσ
theorem EV.go{W1:Wd}{R:Rw α}{m:Res α}{Q:VK}(e:Ext W W1)(h:EV Er t σ W R m)(k:m.OkE Er fun a=>∀v W2,Ext W1 W2->R W2 a v->Q v W2.H):t σ W1.H Q:=h W1 e Q k
end
end Wb
namespace Mi
def kindN:List Tx:=[[66,97,100,84,97,98,108,101,116],[66,97,100,82,111,119],[66,97,100,84,101,120,116],[66,97,100,77,97,114,107],[84,111,111,76,111,110,103],[84,111,111,84,105,103,104,116],[83,112,111,111,108,68,114,121],[78,111,84,97,98,108,101,116],[78,111,116,104,105,110,103,76,101,102,116],[85,110,108,105,107,101],[83,101,101,110,84,104,114,101,97,100],[78,111,83,117,99,104,87,97,121],[66,97,114,114,101,100]]
def oP(s:Tx)(j:Nat):Dat:=.t [.s s,.l [.s (kindN.getD j [])]]
def uc(i:Int):Tx:=(toString i).toList.map Char.toNat
def yM(i:Int):Res Tx:=dQ (i.natAbs.log2<1920)<|uc i
def yN(x:Tx):Res Tx:=dQ (x.length<=cap) x
end Mi
namespace L2
open PySem PySem.Spec PyProof.Rows
def XV(x:Addr):Option Addr->CD
 |none=>.ref x
 |some d=>.int (Int.ofNat d) 0
theorem rH{f:Array CD->Array CD}{o:Obj}:(DV f o).dict=o.dict:=by
 unfold DV;split<;>rfl
structure Fly(h:Heap)(H:Hp)(lim:Heap)(e C:Addr)(od:Option Addr):Prop where
 he:H e=none
 hl:lim.get? e=none
 ob:∃(oe:Obj)(vs:Array CD),h.get? e=some oe/\(oe.cls=.ref C/\oe.dict=od)/\oe.data=.fields vs/\vs[2]? =some .none/\
  (vs[1]? =some .none\/∃(T:Addr)(oT:Obj)(ts:Array CD),vs[1]? =some (.ref T)/\T≠e/\H T=none/\lim.get? T=none/\h.get? T=some oT/\oT.data=.fields ts/\ts[3]? =some .none)
structure Gone(fs:List Addr)(H:Hp)(lim:Heap)(e:Addr)(h h':Heap):Prop where
 keep:∀b o,h.get? b=some o->b∉fs->b≠e->(H b≠none\/lim.get? b≠none)->h'.get? b=some o
 slot:∀b o,h.get? b=some o->b∈fs->∃sl,h'.get? b=some {o with slots:=sl}
 there:∀b o,h.get? b=some o->∃o',h'.get? b=some o'
theorem Gone.trans{fs:List Addr}{H:Hp}{lim:Heap}{e:Addr}{h h1 h2:Heap}(a:Gone fs H lim e h h1)(b:Gone fs H lim e h1 h2):Gone fs H lim e h h2:=
 ⟨fun c o q n m k=>b.keep c o (a.keep c o q n m k) n m k,fun c o q n=>by
  obtain⟨sl,z⟩:=a.slot c o q n;obtain⟨sl',z'⟩:=b.slot c _ z n;exact⟨sl',z'⟩,fun c o q=>by
  obtain⟨o',z⟩:=a.there c o q;exact b.there c o' z⟩
section
variable{M:Le}{A:Dr}{E:CD->CH->Prop}{s:CH}{base lim:Heap}{H:Hp}{env:Env}{outer:List Env}{L e C:Addr}{od:Option Addr}
abbrev AQ(head:CD)(L:Addr)(pl:List CD):Obj:={cls:=.type "traceback",dict:=none,data:=.fields ([head,.ref L,.none,rawInt L,.none]++(if pl.isEmpty then ES 6 Df else pl)).toArray}
theorem qk{head:CD}{hn:Bool}{oe:Obj}{vs:Array CD}{Q:Unit->CH->Prop}(hfr:A.frames=some (env::outer))(hfn:s.heap.FunFrames base (env::outer))(hf:env.frame=some L)
  (he:s.heap.get? e=some oe) (hd:oe.data=.fields vs) (hc:oe.cls=.ref C/\oe.dict=od) (h2:vs[2]? =some .none) (hH:H e=none) (hlm:lim.get? e=none)
  (hfree:∀b,s.heap.objs.size<=b->H b=none/\lim.get? b=none)
  (h:∀h',Gone (frs (env::outer)) H lim e s.heap h'->Fly h' H lim e C od->Q () {s with heap:=h'}):
  wpAny M A (do let a <-frameOf env;let pl <-entryPlaceOf L hn;let b <-JD head a .none (rawInt L) .none pl;setField (.ref e) 1 b) (fun _ s'=>wpAny M A (setFlight (.ref e) none) Q E s') E s:=by
 have hsz:1<vs.size:=by have:=(E1.mp h2).1;omega
 have nfr:e∉(env::outer).filterMap (·.frame):=fun hm=>by
  obtain⟨_,o,ho,hnf⟩:=hfn.mem hm;rw[he]at ho;exact hnf vs (by rw[<-Dp ho];exact hd)
 refine Cy<|wpAny_frameOf_fun hfr hfn hf fun h1 hs1=>?_;refine Cy<|wpAny_entryPlaceOf fun pl hpl=>?_;unfold JD newFields;refine Cy<|DK ?_<|hpl.sizeOk5 _ _ _ _ _;have g1:h1.get? e=some oe:=(hs1.2.1 e nfr).trans he;have g2:(h1.push<|AQ head L pl).get? e=some oe:=CB _ g1;refine Ed g2 hd hsz ?_;have ne:h1.objs.size≠e:=ER<|CP g1;have d3:=Es hd (·.setIfInBounds 1 (D8 h1.objs.size));have g3:=DS (DV (·.setIfInBounds 1 (D8 h1.objs.size))) g2<|F2 d3;have gT:=(Du (h1.push<|AQ head L pl) (DV (·.setIfInBounds 1 (D8 h1.objs.size)))<|F3 ne).trans (CM h1 rfl);unfold setFlight;refine Cy (Dl g3 d3 (x:=.ref h1.objs.size) (by simp[hsz]) ?_);rw[if_pos (show(D8 h1.objs.size != Df)=true from by simp)];refine Ed gT rfl (by simp only[CY,DZ,El,Gq]<;>omega) ?_;have keep1:∀b o,b≠e->h1.get? b=some o->(((h1.push<|AQ head L pl).update e (DV (·.setIfInBounds 1 (D8 h1.objs.size)))).update h1.objs.size (DV (·.setIfInBounds 3 ((none:Option Addr).elim Df fun f=>rawInt f)))).get? b=some o:=fun b o hb hq=>by
  rw[Du _ _<|ER<|CP hq,Du _ _<|F3 hb];exact CB _ hq
 have ge:(((h1.push<|AQ head L pl).update e (DV (·.setIfInBounds 1 (D8 h1.objs.size)))).update h1.objs.size (DV (·.setIfInBounds 3 ((none:Option Addr).elim Df fun f=>rawInt f)))).get? e=some (DV (·.setIfInBounds 1 (D8 h1.objs.size)) oe):=by
  rw[Du _ _ ne];exact g3
 have big:s.heap.objs.size<=h1.objs.size:=hs1.1▸CU _;refine h _ ⟨fun b o q n m _=>keep1 b o m<|(hs1.2.1 b n).trans q,fun b o q n=>?_,fun b o q=>?_⟩ ⟨hH,hlm,_,_,ge,⟨by rw[HX];exact hc.1,by rw[rH];exact hc.2⟩,d3,by rw[Array.getElem?_setIfInBounds_ne (by decide)];exact h2,.inr ⟨h1.objs.size,_,_,by simp[hsz],ne,(hfree _ big).1,(hfree _ big).2,DS _ gT<|F2<|Es rfl _,Es rfl _,?_⟩⟩
 ·obtain⟨sl,z⟩:=hs1.2.2 b o q;exact⟨sl,keep1 b _ (fun y=>nfr<|y▸n) z⟩
 ·by_cases y:b=e;·rw[y];exact⟨_,ge⟩
  ·obtain⟨sl,z⟩:=hs1.2.2 b o q;exact⟨_,keep1 b _ y z⟩
 ·first|(simp;done)|(rcases hpl with rfl|⟨_,_,_,_,_,_,_,rfl⟩<;>simp)
theorem ql{Q:Unit->CH->Prop}(hfr:A.frames=some (env::outer))(hfn:s.heap.FunFrames base (env::outer))(hf:env.frame=some L)(x:Fly s.heap H lim e C od)
  (hfree:∀b,s.heap.objs.size<=b->H b=none/\lim.get? b=none)
  (h:∀h',Gone (frs (env::outer)) H lim e s.heap h'->Fly h' H lim e C od->Q () {s with heap:=h'}):wpAny M A (noteFrame (.ref e) env) (fun _ s'=>wpAny M A (setFlight (.ref e) none) Q E s') E s:=by
 obtain⟨hH,hlm,oe,vs,he,hc,hd,h2,h1⟩:=x;unfold noteFrame;simp only[hf];rcases h1 with h1|⟨T,oT,ts,h1,hTe,hT0,hTl,hT,hdT,h3⟩
 ·refine Cy<|Dl he hd h1 ?_;rw[if_neg (by decide)];exact qk hfr hfn hf he hd hc h2 hH hlm hfree h
 ·refine Cy<|Dl he hd h1 ?_;rw[if_pos (show(D8 T != Df)=true from by simp)];refine Cy<|Dl hT hdT h3 ?_;rw[if_neg (show ¬((Df==rawInt L)=true)from by simp[rawInt])];refine Cy<|Ed hT hdT (E1.mp h3).1 ?_;have other:∀b,b≠T->(s.heap.update T (DV (·.setIfInBounds 3 Df))).get? b=s.heap.get? b:=fun b hb=>Du _ _<|F3 hb;have nT:∀b o,s.heap.get? b=some o->(∀vs,o.data≠.fields vs)->b≠T:=fun b o q hn z=>by
   rw[z,hT]at q;exact hn ts (by rw[<-Dp q];exact hdT)
  have g0:Gone (frs (env::outer)) H lim e s.heap (s.heap.update T (DV (·.setIfInBounds 3 Df))):=⟨fun b o q n m k=>(other b fun z=>by
    rw[z,hT0,hTl]at k;rcases k with k|k<;>exact k rfl).trans q,fun b o q n=>⟨o.slots,(other b (by
    obtain⟨_,o',ho,hnf⟩:=hfn.mem n;exact nT b o' ho hnf)).trans q⟩,fun b o q=>by
    by_cases z:b=T;·rw[z];exact⟨_,DS _ hT<|F2<|Es hdT _⟩
    ·exact⟨o,(other b z).trans q⟩⟩
  have sz:(s.heap.update T (DV (·.setIfInBounds 3 Df))).objs.size=s.heap.objs.size:=Iy ..;refine qk (s:={s with heap:=s.heap.update T (DV (·.setIfInBounds 3 Df))}) hfr (hfn.of_keeps fun b o q hn=>⟨o,(other b<|nT b o q hn).trans q,rfl⟩) hf ((other e<|F3 hTe).trans he) hd hc h2 hH hlm (fun b hb=>hfree b (by rw[<-sz];exact hb)) fun h' g1 f1=>h h' (g0.trans g1) f1
theorem rJ{Q:Unit->CH->Prop}(hfr:A.frames=some (env::outer))(hfn:s.heap.FunFrames base (env::outer))(hf:env.frame=some L)(x:Fly s.heap H lim e C od)
  (hfree:∀b,s.heap.objs.size<=b->H b=none/\lim.get? b=none)
  (h:∀h',Gone (frs (env::outer)) H lim e s.heap h'->Fly h' H lim e C od->Q () {s with heap:=h'}):wpAny M A (leaving env<|.ref e) Q E s:=by
 unfold leaving;exact Cy<|ql hfr hfn hf x hfree h
theorem ud{Q:Unit->CH->Prop}(hfn:s.heap.FunFrames base (env::outer))(x:Fly s.heap H lim e C od)
  (h:∀h',Gone (frs (env::outer)) H lim e s.heap h'->Fly h' H lim e C od->Q () {s with heap:=h'}):wpAny M A (setFlight (.ref e) none) Q E s:=by
 obtain⟨hH,hlm,oe,vs,he,hc,hd,h2,h1⟩:=x;unfold setFlight;rcases h1 with h1|⟨T,oT,ts,h1,hTe,hT0,hTl,hT,hdT,h3⟩
 ·refine Cy<|Dl he hd h1 ?_;rw[if_neg (by decide)];exact CG<|h s.heap ⟨fun b o q _ _ _=>q,fun b o q _=>⟨o.slots,q⟩,fun b o q=>⟨o,q⟩⟩ ⟨hH,hlm,oe,vs,he,hc,hd,h2,.inl h1⟩
 ·refine Cy<|Dl he hd h1 ?_;rw[if_pos (show(D8 T != Df)=true from by simp)];refine Ed hT hdT (E1.mp h3).1 ?_;have other:∀b,b≠T->(s.heap.update T (DV (·.setIfInBounds 3 ((none:Option Addr).elim Df fun f=>rawInt f)))).get? b=s.heap.get? b:=fun b hb=>Du _ _<|F3 hb;have gT:=DS (DV (·.setIfInBounds 3 ((none:Option Addr).elim Df fun f=>rawInt f))) hT<|F2<|Es hdT _;refine h _ ⟨fun b o q n m k=>(other b fun z=>by
    rw[z,hT0,hTl]at k;rcases k with k|k<;>exact k rfl).trans q,fun b o q n=>⟨o.slots,(other b (by
    obtain⟨_,o',ho,hnf⟩:=hfn.mem n;intro z;rw[z,hT]at ho;exact hnf ts (by rw[<-Dp ho];exact hdT))).trans q⟩,fun b o q=>by
    by_cases z:b=T;·rw[z];exact⟨_,gT⟩
    ·exact⟨o,(other b z).trans q⟩⟩ ⟨hH,hlm,oe,vs,(other e (F3 hTe)).trans he,hc,hd,h2,.inr ⟨T,_,_,h1,hTe,hT0,hTl,gT,Es hdT _,?_⟩⟩
  have:=(E1.mp h3).1;simp[this]
end
def CXR(P:CT)(w:D6):CXT:=fun outer H s E e s'=>∃(x C:Addr)(H':Hp)(od:Option Addr),e=.ref x/\Fly s'.heap H' s.heap x C od/\s'.os=s.os/\Hy s'.gens/\Un (frs outer) [] H H' s.heap s'.heap/\HOk P w H' s'.heap/\E (XV x od) (some C) H'
section
variable{P:CT}{w:D6}{K:CF}{mg:Str->Option CD}{base:Heap}{N:List Str}{qual:Str}{scope:Fm}{f:Addr}{cd:CD}{A:Dr}{outer:List Env}{s0 s:CH}{H0 H:Hp}{E:XK}{pins:List (Addr×Obj)}{σ:St}{e C:Addr}{od:Option Addr}
abbrev rK(P:CT)(w:D6)(K:CF)(mg:Str->Option CD)(base:Heap)(N:List Str)(qual:Str)(scope:Fm)(f:Addr)(cd:CD)(A:Dr)(outer:List Env)(s0:CH)(H0:Hp)(E:XK):Cx:=kI (CXR P w) P w K mg base N qual scope f cd A outer s0 H0 E
theorem Al(I:Inv (rK P w K mg base N qual scope f cd A outer s0 H0 E) pins σ H s)(x:Fly s.heap H s0.heap e C od)(q:E (XV e od) (some C) H):(rK P w K mg base N qual scope f cd A outer s0 H0 E).xe (.ref e) s:=by
 have hsz:s0.heap.objs.size<=s.heap.objs.size:=I.sz;have hfree:∀b,s.heap.objs.size<=b->H b=none/\s0.heap.get? b=none:=fun b hb=>⟨I.hok.fresh hb,Hg<|E9 hsz hb⟩
 refine rJ (base:=base) (env:=envOfC qual scope s0.heap.objs.size f cd) (outer:=outer) (L:=s0.heap.objs.size) (H:=H) (lim:=s0.heap) I.ok.frames I.stack rfl x hfree fun h' g fl=>?_;have stk:∀b,b∈frs (envOfC qual scope s0.heap.objs.size f cd::outer)->H b=none:=I.stkFree;have low:∀b o,s0.heap.get? b=some o->b∉frs outer->b∉frs (envOfC qual scope s0.heap.objs.size f cd::outer):=fun b o q n m=>by
  have:b=s0.heap.objs.size\/b∈frs outer:=CW.mp (show b∈s0.heap.objs.size::frs outer from m);rcases this with z|z
  ·have:=CP q;rw[z]at this;exact DH _ this
  ·exact n z
 have sub:∀b,b∈frs outer->b∈frs (envOfC qual scope s0.heap.objs.size f cd::outer):=fun b m=>by
  show b∈s0.heap.objs.size::frs outer;exact D7 _ m
 have ne0:∀b o,s0.heap.get? b=some o->b≠e:=fun b o q z=>by rw[z,x.hl]at q;cases q
 have U:=I.base;refine⟨e,C,H,od,rfl,fl,I.os,I.bare,⟨fun b o q1 n hb hx=>g.keep b o (U.keep b o q1 n hb hx) (low b o q1 hb) (ne0 b o q1) (.inr (by rw[q1];exact fun z=>nomatch z)),fun b o q1 n hb hx=>?_,U.free,fun b o q1 hx=>?_,U.tups,U.frzs,U.tbls⟩,fun b u hb=>?_,q⟩
 ·obtain⟨sl,z⟩:=U.slot b o q1 n hb hx;obtain⟨sl',z'⟩:=g.slot b _ z<|sub b hb;exact⟨sl',z'⟩
 ·obtain⟨o',z⟩:=U.there b o q1 hx;exact g.there b o' z
 ·refine(I.hok b u hb).stay (fun c v hc q1=>?_) (fun _ q1=>q1) fun _ _ q1=>q1;have hn:H c≠none:=by
   rcases hc with z|z
   ·rw[z,hb];exact fun z=>nomatch z
   ·rw[z];exact fun z=>nomatch z
  exact g.keep c v q1 (fun m=>hn<|stk c m) (fun z=>hn (by rw[z];exact x.he))<|.inl hn
end
section
variable{X:Cx}{pins:List (Addr×Obj)}{σ:St}{H:Hp}{s:CH}
theorem Inv.to_nox(I:Inv X pins σ H s):Inv X.nox pins σ H s:=⟨⟨I.ok.mod,I.ok.kind,I.ok.glob,I.ok.blt,I.ok.above,I.ok.inj,I.ok.has,I.ok.cab,I.ok.hd,I.ok.frames,I.ok.stk,I.ok.exf,I.ok.bs,I.ok.bsz,I.ok.noex,I.ok.exfs,I.ok.funs,I.ok.frf⟩,I.os,I.bare,I.base,I.loc,I.cell,I.free,I.freeC,I.pin,I.hok,I.len⟩
theorem Inv.of_nox(I:Inv X.nox pins σ H s):Inv X pins σ H s:=⟨⟨I.ok.mod,I.ok.kind,I.ok.glob,I.ok.blt,I.ok.above,I.ok.inj,I.ok.has,I.ok.cab,I.ok.hd,I.ok.frames,I.ok.stk,I.ok.exf,I.ok.bs,I.ok.bsz,I.ok.noex,I.ok.exfs,I.ok.funs,I.ok.frf⟩,I.os,I.bare,I.base,I.loc,I.cell,I.free,I.freeC,I.pin,I.hok,I.len⟩
theorem yO{D:Ends}{fl:Flow}{s':CH}(h:SP X.nox pins D fl s'):SP X pins D fl s':=by
 cases fl with
 |next=>obtain⟨σ',H',J,z⟩:=h;exact⟨σ',H',J.of_nox,z⟩
 |ret u=>obtain⟨v,σ',H',J,r,z⟩:=h;exact⟨v,σ',H',J.of_nox,r,z⟩
 |brk=>obtain⟨σ',H',J,z⟩:=h;exact⟨σ',H',J.of_nox,z⟩
 |cont=>obtain⟨σ',H',J,z⟩:=h;exact⟨σ',H',J.of_nox,z⟩
theorem yP{st:Stmt}{t:TS}(h:PS X.nox st t):PS X st t:=fun pins s σ H D I q=>DW (h pins s σ H D I.to_nox q) (fun fl s' z=>yO z) fun _ _ z=>z.elim
end
theorem ObjOk.ex{P:CT}{w:D6}{H:Hp}{h:Heap}{a:Addr}:∀{o:HO},ObjOk P w H h a o->∃ob,h.get? a=some ob:=by
 intro o
 induction o with
 |lst xs=>intro x;obtain⟨_,its,n,r,e⟩:=x;exact⟨_,e⟩
 |tup xs=>intro x;obtain⟨_,its,r,ob,e,c⟩:=x;exact⟨_,e⟩
 |dK kvs=>intro x;obtain⟨_,_,vs,r,ob,es,ep,e,c⟩:=x;exact⟨_,e⟩
 |dT kvs=>intro x;obtain⟨_,_,xs,r,ob,es,ep,e,c⟩:=x;exact⟨_,e⟩
 |set S n=>intro x;obtain⟨o,e,_⟩:=N1 x;exact⟨_,e⟩
 |ins C dx fs=>intro x;obtain⟨_,_,_,e,_⟩:=x;exact⟨_,e⟩
 |own y=>intro x;exact x
 |xd fs=>intro x;obtain⟨mA,hn,_⟩:=x;obtain⟨o,es,ep,e,_⟩:=hn;exact⟨_,e⟩
 |rng lo hi=>intro x;obtain⟨t,u,v,e⟩:=x;exact⟨_,e⟩
 |frz o u=>intro x;exact⟨_,x.1⟩
 |tbl ps=>intro x;exact⟨_,x⟩
 |met f y=>intro x;exact⟨_,x⟩
 |ext φ=>intro x;exact x.2.1
def Ecl(h:Heap)(C:Addr):Prop:=∃nm q N bs bm hdct sn sub ab col dd k0 k1 k2 k3 k5 newId mN B initId bmB,h.get? C=some (excClassObj nm q C N bs bm hdct sn sub ab col dd k0 k1 k2 k3 k5 newId)/\h.Ns N mN/\mN "__init__"=none/\OwnTail h bmB bm/\ExcBaseFacts B newId initId bmB
def ue(E:XK)(C:Addr)(t:TA):TS:=fun _ σ H=>t σ H fun vs H1=>vs.length<=sizeLine/\∀x,H1 x=none->E (.ref x) (some C) H1
section
variable{P:CT}{w:D6}{K:CF}{mg:Str->Option CD}{base:Heap}{N:List Str}{qual:Str}{scope:Fm}{f:Addr}{cd:CD}{A:Dr}{outer:List Env}{s0:CH}{H0:Hp}{E:XK}{C:Addr}
theorem uf{x:Str}{np cpos pos:Pos}{e:Expr}{es:List Expr}{t:TA}(cl:Ecl base C)(hg:Gl (rK P w K mg base N qual scope f cd A outer s0 H0 E) x)(hm:mg x=some (.ref C))(ha:PA (rK P w K mg base N qual scope f cd A outer s0 H0 E) (e::es) t)
  (hdb:(x==("__debug__" :Str))=false:=by decide) (he:starEach (e::es) (rK P w K mg base N qual scope f cd A outer s0 H0 E).env=(false,eval e (rK P w K mg base N qual scope f cd A outer s0 H0 E).env)::starEach es (rK P w K mg base N qual scope f cd A outer s0 H0 E).env:=by rfl) (hpl:(backTo cpos<|starEach es (rK P w K mg base N qual scope f cd A outer s0 H0 E).env).any (·.1)=false:=by rfl):
  PS (rK P w K mg base N qual scope f cd A outer s0 H0 E) (.Raise (some<|.Call (.Name x np) (e::es) [] cpos) none pos) (ue E C t):=by
 intro pins s σ H D I h;obtain⟨nm,q,Nn,bs,bm,hdct,sn,sub,ab,col,dd,k0,k1,k2,k3,k5,newId,mN,B,initId,bmB,hC,hN,hni,T,F⟩:=cl;refine wpAny_Raise_call_subT (C:=C) (nm:=nm) (q:=q) (N:=Nn) (bs:=bs) (bm:=bm) (hdct:=hdct) (sn:=sn) (sub:=sub) (ab:=ab) (col:=col) (dd:=dd) (k0:=k0) (k1:=k1) (k2:=k2) (k3:=k3) (k5:=k5) F (mN:=mN) (T.hasType F.hasBase) (I.ok.hd rfl) (by rw[he];show(false||(backTo cpos<|starEach es _).any (·.1))=false;rw[hpl];rfl) hni<|gW I hg hm ⟨rfl,?_⟩ hdb;rw[he];refine Jr ?_;show wpAny _ _ (spliced<|backTo cpos ((false,eval e (rK P w K mg base N qual scope f cd A outer s0 H0 E).env)::starEach es (rK P w K mg base N qual scope f cd A outer s0 H0 E).env)) _ _ _;rw[<-he];refine bF (ha cpos pins s σ H _ I h) fun us s1⟨vs,H1,I1,r,hz,q1⟩=>⟨rfl,by rw[<-r.length];exact hz,I1.bk _ _ hC,hN.keeps I1.bk,T.keeps I1.bk,fun h' y hy=>?_⟩
 obtain⟨t0,h1,h2,h3⟩:=hy.there;have I2:Inv (rK P w K mg base N qual scope f cd A outer s0 H0 E) pins σ H1 {s1 with heap:=h'}:=I1.kept (t':=s1.toks) hy.keeps;have n1:H1 y=none:=by
  cases z:H1 y with
  |none=>rfl
  |some o=>obtain⟨ob,hb⟩:=(I1.hok y o z).ex;rw[hy.new]at hb;cases hb
 have n2:s0.heap.get? y=none:=by
  cases z:s0.heap.get? y with
  |none=>rfl
  |some o=>obtain⟨ob,hb⟩:=I1.base.there y o z (by simp[kI]);rw[hy.new]at hb;cases hb
 exact Al (od:=none) I2 ⟨n1,n2,_,_,h1,⟨rfl,rfl⟩,rfl,rfl,.inl rfl⟩<|q1 y n1
end
def Xcl(h:Heap)(C:Addr)(bm:List CD):Prop:=∃nm q N bs hdct sn sub ab col dd k0 k1 k2 k3 k5 newId,h.get? C=some (excClassObj nm q C N bs bm hdct sn sub ab col dd k0 k1 k2 k3 k5 newId)/\bm.contains (.type "BaseException")=true
theorem Xcl.keeps{h h':Heap}{C:Addr}{bm:List CD}(x:Xcl h C bm)(k:∀b o,h.get? b=some o->h'.get? b=some o):Xcl h' C bm:=by
 obtain⟨nm,q,N,bs,hdct,sn,sub,ab,col,dd,k0,k1,k2,k3,k5,newId,e,hb⟩:=x;exact⟨nm,q,N,bs,hdct,sn,sub,ab,col,dd,k0,k1,k2,k3,k5,newId,k _ _ e,hb⟩
section
variable{M:Le}{A:Dr}{E:CD->CH->Prop}
theorem kQ{s:CH}{e C D:Addr}{bmC bmD:List CD}{oe:Obj}{Q:Bool->CH->Prop}(hC:Xcl s.heap C bmC)(hD:Xcl s.heap D bmD)(he:s.heap.get? e=some oe)(hcls:oe.cls=.ref C)(hq:Q ((D8 C::bmC).contains (.ref D)) s):wpAny M A (excMatches (.ref e)<|.ref D) Q E s:=by
 obtain⟨h,g,d,t,os⟩:=s;obtain⟨nm,q,N,bs,hdct,sn,sub,ab,col,dd,k0,k1,k2,k3,k5,newId,hC,hbase⟩:=hC;obtain⟨nm',q',N',bs',hdct',sn',sub',ab',col',dd',k0',k1',k2',k3',k5',newId',hD,hbase'⟩:=hD;have hcB:(D8 D::bmD).contains (.type "BaseException")=true:=by rw[K1,hbase',Bool.or_true]
 have f:=tc_notTuple;generalize hb:(D8 C::bmC).contains (.ref D)=b at hq;unfold excMatches
 repeat (first|(with_reducible refine Kp he ?_;rw[hcls])|with_reducible refine Kp hD ?_|(with_reducible refine JE hD ?_;rw[hcB])|(with_reducible refine JE hC ?_;rw[hb])|wp_step)
 first|exact hq|(cases b<;>(wp_walk;exact hq))
end
structure Big(X:Cx)(pins:List (Addr×Obj))(lim:Heap):Prop where
 old:∀b o,X.s₀.heap.get? b=some o->b∉X.ex->lim.get? b≠none
 loc:lim.get? X.env.locals≠none
 cell:∀x c,X.env.cells.lookup x=some c->lim.get? c≠none
 pin:∀p∈X.pn++pins,lim.get? p.1≠none
def Own(X:Cx):Prop:=X.stack=X.env::X.outer/\X.env.frame=some X.env.locals
section
variable{X:Cx}{pins:List (Addr×Obj)}{σ:St}{H:Hp}{s:CH}{lim h':Heap}{e C:Addr}{od:Option Addr}{oe:Obj}
theorem Own.frs(o:Own X):frs X.stack=X.env.locals::X.fs:=by
 rw[o.1];unfold L2.frs;rw[Fi,o.2];rfl
theorem Inv.bigX(I:Inv X pins σ H s):Big X pins s.heap:=by
 refine⟨fun b o q n=>?_,?_,fun x c q=>?_,fun p hp=>?_⟩
 ·obtain⟨o',z⟩:=I.base.there b o q n;rw[z];exact fun z=>nomatch z
 ·obtain⟨m,⟨o,es,ep,ho,_⟩,_⟩:=I.loc;rw[ho];exact fun z=>nomatch z
 ·obtain⟨v,o,ho,_⟩:=I.cell x c q;rw[ho];exact fun z=>nomatch z
 ·rw[(I.pin p hp).1];exact fun z=>nomatch z
theorem Inv.gone(I:Inv X pins σ H s)(w:Own X)(x:Fly s.heap H lim e C od)(B:Big X pins lim)(g:Gone (frs X.stack) H lim e s.heap h'):Inv X pins σ H {s with heap:=h'}:=by
 have hf:=w.frs;have ne:∀b,lim.get? b≠none->b≠e:=fun b hb z=>hb (by rw[z];exact x.hl);have low:∀b o,X.s₀.heap.get? b=some o->b∉X.fs->b∉frs X.stack:=fun b o q n m=>by
  rw[hf]at m;rcases CW.mp m with z|z
  ·have:=CP q;rw[z]at this;exact absurd (CN this I.ok.above)<|DH _
  ·exact n z
 have cellK:∀y c,X.env.cells.lookup y=some c->∀v,s.heap.IsCell c v->h'.IsCell c v:=fun y c q v⟨o,ho,hd⟩=>by
  by_cases m:c∈frs X.stack
  ·obtain⟨sl,z⟩:=g.slot c o ho m;exact⟨_,z,hd⟩
  ·exact⟨o,g.keep c o ho m (ne c<|B.cell y c q)<|.inr<|B.cell y c q,hd⟩
 refine⟨I.ok,I.os,I.bare,⟨fun b o q n hb hx=>?_,fun b o q n hb hx=>?_,I.base.free,fun b o q hx=>?_,I.base.tups,I.base.frzs,I.base.tbls⟩,?_,fun y c q=>?_,I.free,I.freeC,fun p hp=>?_,fun b u hb=>?_,I.len⟩;·exact g.keep b o (I.base.keep b o q n hb hx) (low b o q hb) (ne b<|B.old b o q hx)<|.inr<|B.old b o q hx
 ·obtain⟨sl,z⟩:=I.base.slot b o q n hb hx;obtain⟨sl',z'⟩:=g.slot b _ z (by rw[hf];exact D7 _ hb);exact⟨sl',z'⟩
 ·obtain⟨o',z⟩:=I.base.there b o q hx;exact g.there b o' z
 ·obtain⟨m,⟨o,es,ep,ho,hd,hk,hm⟩,hl⟩:=I.loc;obtain⟨sl,z⟩:=g.slot _ o ho (by rw[hf];exact CZ ..);refine⟨m,⟨_,es,ep,z,hd,hk,hm⟩,fun i y v q1 q2 q3=>?_⟩;obtain⟨u,r,l⟩:=hl i y v q1 q2 q3;refine⟨u,r,?_⟩;rcases l with l|⟨k,c,q,z⟩
  ·exact .inl l
  ·exact .inr ⟨k,c,q,cellK y c q _ z⟩
 ·obtain⟨v,z⟩:=I.cell y c q;exact⟨v,cellK y c q v z⟩
 ·obtain⟨q,n,nl,nf,d⟩:=I.pin p hp;exact⟨g.keep p.1 p.2 q (fun m=>by
   rw[hf]at m;rcases CW.mp m with z|z
   ·exact nl z
   ·exact nf z) (ne _ (B.pin p hp)) (.inr (B.pin p hp)),n,nl,nf,d⟩
 ·refine(I.hok b u hb).stay (fun c v hc q1=>?_) (fun _ q1=>q1) fun _ _ q1=>q1;have hn:H c≠none:=by
   rcases hc with z|z
   ·rw[z,hb];exact fun z=>nomatch z
   ·rw[z];exact fun z=>nomatch z
  exact g.keep c v q1 (fun m=>hn<|I.stkFree c m) (fun z=>hn (by rw[z];exact x.he))<|.inl hn
abbrev Cx.held(X:Cx)(e:Addr)(oe:Obj):Cx:={X with A:=X.A.mark<|some<|.ref e,calm:=false,pn:=(e,oe)::X.pn,xe:=fun _ _=>False}
theorem Inv.held(I:Inv X pins σ H s)(q:s.heap.get? e=some oe)(n:H e=none)(nl:e≠X.env.locals)(nf:e∉X.fs)(d:∀v,oe.data≠.cell v):Inv (X.held e oe) pins σ H s:=
 ⟨⟨I.ok.mod,I.ok.kind,I.ok.glob,I.ok.blt,I.ok.above,I.ok.inj,I.ok.has,I.ok.cab,fun z=>(nomatch z),I.ok.frames,I.ok.stk,I.ok.exf,I.ok.bs,I.ok.bsz,I.ok.noex,I.ok.exfs,I.ok.funs,I.ok.frf⟩,I.os,I.bare,I.base,I.loc,I.cell,I.free,I.freeC,fun p hp=>by
  rcases CW.mp hp with z|z;·subst z;exact⟨q,n,nl,nf,d⟩
  ·exact I.pin p z,I.hok,I.len⟩
theorem Inv.unheld(ok:X.Ok)(I:Inv (X.held e oe) pins σ H s):Inv X pins σ H s:=⟨ok,I.os,I.bare,I.base,I.loc,I.cell,I.free,I.freeC,fun p hp=>I.pin p<|D7 _ hp,I.hok,I.len⟩
abbrev Cx.pinsX(X:Cx)(ps:List (Addr×Obj)):Cx:={X with pn:=X.pn++ps}
theorem Inv.pinnedX(I:Inv X pins σ H s):Inv (X.pinsX pins) [] σ H s:=⟨⟨I.ok.mod,I.ok.kind,I.ok.glob,I.ok.blt,I.ok.above,I.ok.inj,I.ok.has,I.ok.cab,I.ok.hd,I.ok.frames,I.ok.stk,I.ok.exf,I.ok.bs,I.ok.bsz,I.ok.noex,I.ok.exfs,I.ok.funs,I.ok.frf⟩,I.os,I.bare,I.base,I.loc,I.cell,I.free,I.freeC,fun p hp=>I.pin p (by simpa using hp),I.hok,I.len⟩
theorem Inv.unpinnedX{pins':List (Addr×Obj)}(ok:X.Ok)(I:Inv (X.pinsX pins) pins' σ H s):Inv X pins σ H s:=⟨ok,I.os,I.bare,I.base,I.loc,I.cell,I.free,I.freeC,fun p hp=>I.pin p<|EI _ hp,I.hok,I.len⟩
def ug(X:Cx)(E:XK)(v:CD)(s:CH):Prop:=∃(pins:List (Addr×Obj))(σ:St)(H:Hp)(x C:Addr)(lim:Heap)(od:Option Addr),v=.ref x/\Inv X pins σ H s/\Fly s.heap H lim x C od/\Big X pins lim/\(∀b,s.heap.objs.size<=b->lim.get? b=none)/\E (XV x od) (some C) H
theorem Am{E:XK}:iy (CXR X.prog X.w) (X.wish<|ug X E) E:=fun pins σ H s v s' I⟨x,C,H',od,hv,fl,os,bare,un,hok,q⟩=>by
 subst hv;have I0:Inv X pins σ H s:=I.unwish;have I':Inv X pins σ H' s':=I0.call' os un hok bare fun b z=>absurd z (by simp);refine⟨pins,σ,H',x,C,s.heap,od,rfl,I',fl,I0.bigX,fun b hb=>?_,q⟩;cases z:s.heap.get? b with
 |none=>rfl
 |some o=>
  obtain⟨o',z'⟩:=un.there b o z (by simp);exact absurd (CN (CP z') hb)<|DH _
end
section
variable{X:Cx}{pins:List (Addr×Obj)}{σ:St}{H:Hp}{s:CH}{lim h':Heap}{e C:Addr}{oe:Obj}{M:Le}{A:Dr}{E:CD->CH->Prop}
theorem ja{i:Nat}{x:Str}{pos:Pos}{Q:Unit->CH->Prop}(I:Inv X pins σ H s)(hN:X.N.Nodup)(hi:X.N[i]? =some x)(hk:X.env.scope.names.lookup x=some .local)
  (h:∀s',Inv X pins (σ.set i none) H s'->Q () s'):wpAny M A (do bindName X.env x .none;unbindBehindTheSuite X.env x pos) Q E s:=by
 obtain⟨m,hn,hl⟩:=id I.loc;have hcls:(X.env.scope.kind== .class||(X.env.scope.kind== .module&&X.env.locals != X.env.globals))=false:=by rw[I.ok.kind];rfl
 have hiσ:i<σ.length:=by rw[I.len];exact(CL.mp hi).1
 have cne:=I.cne;obtain⟨oL,_,_,hoL,_⟩:=id hn;refine wpAny_nameGoes_keeps hk hn hcls fun h' v hn' hs=>?_;have tracked:HOk X.prog X.w H h':=fun b ob q=>by
  refine(I.hok b ob q).stay (fun c w' hc q'=>(hs.2 c ?_).trans q') (fun _ q=>q) fun _ _ q=>q;rintro rfl;rcases hc with rfl|hc
  ·rw[I.free]at q;cases q
  ·rw[I.free]at hc;cases hc
 refine h _ ⟨I.ok,I.os,I.bare,⟨fun b o q n hb hx=>?_,fun b o q n hb hx=>?_,I.base.free,fun b o q hx=>?_,I.base.tups,I.base.frzs,I.base.tbls⟩,⟨_,hn',fun j y v' e1 e2 e3=>?_⟩,fun y c q=>?_,I.free,I.freeC,fun p hp=>?_,tracked,by simpa using I.len⟩;·exact(hs.2 b<|D0<|CN (CP q) I.ok.above).trans (I.base.keep b o q n hb hx)
 ·obtain⟨sl,q1⟩:=I.base.slot b o q n hb hx;exact⟨sl,(hs.2 b<|D0<|CN (CP q) I.ok.above).trans q1⟩
 ·obtain⟨o',q1⟩:=I.base.there b o q hx;exact⟨o',(hs.2 b<|D0<|CN (CP q) I.ok.above).trans q1⟩
 ·by_cases hj:j=i
  ·subst hj;rw[FR hiσ]at e2;cases e2
  ·rw[Hh<|F3 hj]at e2;obtain⟨u',r',q⟩:=hl j y v' e1 e2 e3;refine⟨u',r',?_⟩;rcases q with⟨k,q⟩|⟨k,c,q,z⟩
   ·refine .inl ⟨k,?_⟩;have:y≠x:=fun z=>hj<|jj hN e1<|z▸hi;simp[this,q]
   ·exact .inr ⟨k,c,q,z.sameBut hs<|cne y c q⟩
 ·obtain⟨w',z⟩:=I.cell y c q;exact⟨w',z.sameBut hs<|cne y c q⟩
 ·obtain⟨q,n,ne,nf,d⟩:=I.pin p hp;exact⟨(hs.2 p.1 ne).trans q,n,ne,nf,d⟩
end
def Held(oe:Obj)(C:Addr)(od:Option Addr):Prop:=(oe.cls=.ref C/\oe.dict=od)/\∃vs:Array CD,oe.data=.fields vs/\vs[2]? =some .none
def An(E:XK)(i:Nat)(tb:TS)(ts:Addr->Addr->Option Addr->Obj->TS):TS:=fun D σ H=>tb D σ H/\∀(x C:Addr)(od:Option Addr)(oe:Obj)(σ':St)(H':Hp),E (XV x od) (some C) H'->H' x=none->Held oe C od->σ'.length=σ.length->ts x C od oe {nx:=fun σ'' H''=>D.nx (σ''.set i none) H'',rt:=D.rt,bk:=fun σ'' H''=>D.bk (σ''.set i none) H'',ct:=fun σ'' H''=>D.ct (σ''.set i none) H''} (σ'.set i<|some<|.ref x) H'
section
variable{X:Cx}{E:XK}{D:Addr}{bmD:List CD}{body suite:List Stmt}{b₀:Stmt}{xn n:Str}{i:Nat}{np pos pos':Pos}{tb:TS}{ts:Addr->Addr->Option Addr->Obj->TS}
theorem yQ(w:Own X)(hb:∀ps,PSs ((X.pinsX ps).wish (ug (X.pinsX ps) E)) body tb)(hg:Gl X xn)(hm:X.mg xn=some (.ref D))(hD:Xcl X.base D bmD)
  (hcl:∀v C H,E v (some C) H->∃bmC,Xcl X.base C bmC/\(D8 C::bmC).contains (.ref D)=true)
  (hN:X.N.Nodup) (hi:X.N[i]? =some n) (hk:X.env.scope.names.lookup n=some .local) (hsu:∀x C od oe,Held oe C od->PSs (X.held x oe) (b₀::suite) (ts x C od oe))
  (hdb:(xn==("__debug__" :Str))=false:=by decide):
  PS X (.Try body [.ExceptHandler (some<|.Name xn np) (some n) (b₀::suite) pos] [] [] pos') (An E i tb ts):=by
 intro pins s σ H Dn I h;refine wpAny_Try_except<|DW (hb pins [] s σ H Dn (I.pinnedX.wish _) h.1) (fun f s1 q=>?_) fun v s1 q=>?_
 ·cases f with
  |next=>
   obtain⟨σ1,H1,J,z⟩:=q;exact Gk ⟨σ1,H1,J.unwish.unpinnedX I.ok,z⟩
  |brk=>obtain⟨σ1,H1,J,z⟩:=q;exact⟨σ1,H1,J.unwish.unpinnedX I.ok,z⟩
  |cont=>obtain⟨σ1,H1,J,z⟩:=q;exact⟨σ1,H1,J.unwish.unpinnedX I.ok,z⟩
  |ret u=>obtain⟨v,σ1,H1,J,r,z⟩:=q;exact⟨v,σ1,H1,J.unwish.unpinnedX I.ok,r,z⟩
 ·obtain⟨pins1,σ1,H1,x,C,lim,od,rfl,J0,fl,B0,hsz,hE⟩:=q;have J:Inv X pins σ1 H1 s1:=J0.unpinnedX I.ok;have B:Big X pins lim:=⟨B0.old,B0.loc,B0.cell,fun p hp=>B0.pin p<|EI _ hp⟩
  have hfr:X.A.frames=some (X.env::X.outer):=w.1▸I.ok.frames;refine ql (base:=X.base) (H:=H1) (lim:=lim) (C:=C) hfr (w.1▸J.stack) w.2 fl (fun b hb=>⟨J.hok.fresh hb,hsz b hb⟩) fun h2 g2 fl2=>?_;have J2:Inv X pins σ1 H1 {s1 with heap:=h2}:=J.gone w fl B (by rw[w.1];exact g2);obtain⟨bmC,hC,hup⟩:=hcl _ _ _ hE;have nl:x≠X.env.locals:=fun z=>B.loc (by rw[<-z];exact fl.hl);have nf:x∉X.fs:=fun z=>by
   obtain⟨_,o,ho,_⟩:=I.ok.funs.mem z;exact B.old x o ho (fun y=>I.ok.exfs x y z) fl.hl
  have held:∀{s':CH},Inv X pins σ1 H1 s'->Fly s'.heap H1 lim x C od->∃oe,Held oe C od/\s'.heap.get? x=some oe/\Inv (X.held x oe) pins σ1 H1 s':=fun{s'}J' f'=>by
   obtain⟨_,_,oe,vs,h1,h2,h3,h4,_⟩:=id f';exact⟨oe,⟨h2,vs,h3,h4⟩,h1,J'.held h1 f'.he nl nf fun v z=>by rw[h3]at z;cases z⟩
  obtain⟨oe2,hh2,ge2,K2⟩:=held J2 fl2;refine wpAny_handleBy_cons (codeAny_handlers_test ?_) (by intro q;cases q);refine gW K2 hg hm ?_ hdb;refine kQ (C:=C) (D:=D) (bmC:=bmC) (bmD:=bmD) (hC.keeps J2.bk) (hD.keeps J2.bk) ge2 hh2.1.1 ?_;rw[hup];refine codeAny_handlers_suite_as ?_;refine ud (base:=X.base) (env:=X.env) (outer:=X.outer) (H:=H1) (lim:=lim) (C:=C) (w.1▸J2.stack) fl2 fun h3 g3 fl3=>?_;have J3:Inv X pins σ1 H1 {s1 with heap:=h3}:=J2.gone w fl2 B (by rw[w.1];exact g3);obtain⟨oe,hh,ge,K3⟩:=held J3 fl3;refine gV (X:=X.held x oe) (i:=i) (v:=.ref x) K3 hN hi (.inl hk) rfl (fun s4 K4=>?_)<|.inr hk;refine DW (hsu x C od oe hh pins s4 _ H1 _ K4 (h.2 x C od oe σ1 H1 hE fl.he hh (by rw[J.len,I.len]))) (fun f s5 q=>?_) fun _ _ z=>z.elim;show wpAny _ _ (do bindName X.env n .none;unbindBehindTheSuite X.env n pos) _ _ _;cases f with
  |next=>obtain⟨σ5,H5,K5,z⟩:=q;exact ja (K5.unheld I.ok) hN hi hk fun s6 K6=>⟨_,H5,K6,z⟩
  |brk=>obtain⟨σ5,H5,K5,z⟩:=q;exact ja (K5.unheld I.ok) hN hi hk fun s6 K6=>⟨_,H5,K6,z⟩
  |cont=>obtain⟨σ5,H5,K5,z⟩:=q;exact ja (K5.unheld I.ok) hN hi hk fun s6 K6=>⟨_,H5,K6,z⟩
  |ret u=>obtain⟨v,σ5,H5,K5,r,z⟩:=q;exact ja (K5.unheld I.ok) hN hi hk fun s6 K6=>⟨v,_,H5,K6,r,z⟩
end
theorem kR:plainId "proto.unchain"=true:=by decide +kernel
theorem kS:entryFor table "proto.unchain"=some Fq.«proto.unchain»:=entryFor_of_fast (by kernel_rfl)
def Hdl(A:Dr)(h:Heap):Prop:=∃(x C:Addr)(od:Option Addr)(oe:Obj),A.handled=some (.ref x)/\h.get? x=some oe/\Held oe C od
theorem Hdl.keeps{A:Dr}{h h':Heap}(x:Hdl A h)(k:∀b o C,h.get? b=some o->o.cls=.ref C->h'.get? b=some o):Hdl A h':=by
 obtain⟨a,C,od,oe,h1,h2,h3⟩:=x;exact⟨a,C,od,oe,h1,k a oe C h2 h3.1.1,h3⟩
section
variable{prog:CT}{w:D6}{A:Dr}{E:CD->CH->Prop}{s:CH}
theorem kT{α:Type}{a:Addr}{oa:Obj}{vs:Array CD}{T:String}{Q:α->CH->Prop}(hh:Hdl A s.heap)(ha:s.heap.get? a=some oa)(hc:oa.cls=.type T)(hd:oa.data=.fields vs)(h2:2<vs.size)
  (h:∀h',h'.get? a=some (DV (·.setIfInBounds 2 (A.handled.getD .none)) oa)->D5 a s.heap h'->E (.ref a) {s with heap:=h'}):wpAny (model prog w) A (raiseNew (.ref a):Sem α) Q E s:=by
 obtain⟨x,C,od,oe,e1,e2,⟨e3,_⟩,us,e4,e5⟩:=hh;have ne:x≠a:=fun z=>by
  rw[z,ha]at e2;rw[Dp e2,e3]at hc;cases hc
 unfold raiseNew;refine Cy<|Ih ?_;rw[e1];show wpAny _ _ (if(D8 x != D8 a)=true then _ else _) _ _ _;rw[if_pos<|bne_iff_ne.mpr fun z=>ne<|LV z];refine Cy<|DQ<|wpAny_runValue<|codeAny_builtin kS ?_;rw[Around.under_plainId kR _];unfold Fq.«proto.unchain»;refine Cy<|Dl e2 e4 e5 ?_;rw[if_pos (by decide)];refine Cy<|CG ?_;refine CG ?_;refine Cy<|Ed ha hd h2<|Js ?_;refine h _ ?_<|E4 ..;rw[e1];exact DS _ ha<|F2<|Es hd _
theorem lx{α:Type}{Q:α->CH->Prop}(hh:Hdl A s.heap)
  (h:∀a h',({s with heap:=h'}:CH).TypeIs (.ref a) "StopIteration"->s.heap.get? a=none->(∀b o,s.heap.get? b=some o->h'.get? b=some o)->E (.ref a) {s with heap:=h'}):
  wpAny (model prog w) A (do let e <-newExc (.type "StopIteration") [];raiseNew e:Sem α) Q E s:=by
 refine Cy ?_;simp only[newExc,newTuple];refine Cy (DK ?_ (by size_fits));refine Cy (m:=firstArgMember _ _) (HY (a:=Df) (by first|rfl|(simp only[firstArgMember];rfl)) ?_);refine DK ?_ (by size_fits);generalize hg:s.heap.push _=h1;have k1:∀b o,s.heap.get? b=some o->h1.get? b=some o:=fun b o q=>by rw[<-hg];exact CB _ q
 have z1:s.heap.objs.size<=h1.objs.size:=by rw[<-hg,DJ];exact G9 _
 refine kT (T:="StopIteration") (hh.keeps fun b o C q _=>CB _<|k1 b o q) (CM _ rfl) rfl rfl (by simp[ownMembersOf]) fun h' e1 hs=>?_;refine h _ _ ⟨_,e1,by rw[HX]⟩ (Hg z1) fun b o q=>(hs.2 b fun z=>?_).trans (CB _<|k1 b o q);exact absurd (CP<|k1 b o q) (by rw[z];exact DH _)
theorem kU{it l:Addr}{i:Nat}{items:Array CD}{Q:Option CD->CH->Prop}(hh:Hdl A s.heap)(hit:s.heap.IsListIter it l i)(hl:s.heap.IsList l items)(hx:items[i]? =none)
  (hQ:∀h',F9 it s.heap h'->Q none {s with heap:=h'}):wpAny (model prog w) A (pyNext<|.ref it) Q E s:=by
 obtain⟨o,ho,hc,hd⟩:=id hit;obtain⟨ol,hol,_,nl,hdl⟩:=hl;unfold pyNext;refine Cy<|EF<|DD (name:=CI "__next__") hit.typeIs K7<|Dy K7 hit.typeIs entry_listiter_next ?_<|args_listiter_next _;show wpAny _ _ (field (.ref it) 0>>=_) _ _ s;refine Cy<|Dl ho hd (x:=.ref l) rfl ?_;show wpAny _ _ (if(D8 l==Df)=true then _ else _) _ _ s;rw[if_neg (show ¬((D8 l==Df)=true)from CS)];show wpAny _ _ (field (.ref it) 1>>=_) _ _ s;refine Cy<|Dl ho hd (x:=.int i 0) rfl ?_;show wpAny _ _ (seqItems? (.ref l)>>=_) _ _ s;refine Cy<|DL hol hdl ?_;simp only[DY,hx];refine Cy (FV (Cy (Ed ho hd (by simp) ?_)));refine lx (A:=A.in1) ?_ fun a h' tp nw hk=>?_
 ·exact Hdl.keeps (A:=A.in1) hh fun b ob C q z=>(Du _ _ fun y=>by
   rw[<-y,ho]at q;rw[<-Dp q,hc]at z;cases z).trans q
 ·refine Cy<|Ew (T:="StopIteration") (b:=true) tp Fb ?_;exact CG<|hQ _ fun b ob hb q=>hk b ob<|(Du _ _<|F3 hb).trans q
theorem jO{it l:Addr}{i:Nat}{items:Array CD}{Q:Option CD->CH->Prop}(hh:Hdl A s.heap)(hit:IsTupIter s.heap it l i)(hl:MW s.heap l items)(hx:items[i]? =none)
  (hQ:∀h',F9 it s.heap h'->Q none {s with heap:=h'}):wpAny (model prog w) A (pyNext<|.ref it) Q E s:=by
 obtain⟨o,ho,hc,hd⟩:=id hit;obtain⟨ol,hol,_,nl,hdl⟩:=hl;unfold pyNext;refine Cy<|EF<|DD (name:=CI "__next__") hit.typeIs JF<|Dy JF hit.typeIs entry_tupleiter_next ?_<|args_tupleiter_next _;show wpAny _ _ (field (.ref it) 0>>=_) _ _ s;refine Cy<|Dl ho hd (x:=.ref l) rfl ?_;show wpAny _ _ (if(D8 l==Df)=true then _ else _) _ _ s;rw[if_neg (show ¬((D8 l==Df)=true)from CS)];show wpAny _ _ (field (.ref it) 1>>=_) _ _ s;refine Cy<|Dl ho hd (x:=.int i 0) rfl ?_;show wpAny _ _ (seqItems? (.ref l)>>=_) _ _ s;refine Cy<|DL hol hdl ?_;simp only[DY,hx];refine Cy (FV (Cy (Ed ho hd (by simp) ?_)));refine lx (A:=A.in1) ?_ fun a h' tp nw hk=>?_
 ·exact Hdl.keeps (A:=A.in1) hh fun b ob C q z=>(Du _ _ fun y=>by
   rw[<-y,ho]at q;rw[<-Dp q,hc]at z;cases z).trans q
 ·refine Cy<|Ew (T:="StopIteration") (b:=true) tp Fb ?_;exact CG<|hQ _ fun b ob hb q=>hk b ob<|(Du _ _<|F3 hb).trans q
theorem nE{t:Addr}{items:Array CD}{Q:List CD->CH->Prop}(hh:Hdl A s.heap)(ht:MW s.heap t items)
  (hQ:∀h',F9 s.heap.objs.size s.heap h'->Q items.toList {s with heap:=h'}):wpAny (model prog w) A (unpackItems (.ref t) items.size none) Q E s:=by
 have hlt:t≠s.heap.objs.size:=by obtain⟨o,ho,_⟩:=ht;exact D0<|CP ho
 unfold unpackItems;refine Cy ?_;unfold notIterableAtAll;refine Cy<|Gm ht.typeIs slot_tuple_iter.lookup<|CG ?_;simp only[Dm,if_false];refine Cy<|DQ<|iter_tuple ht ?_;refine Cy (DQ (draw_tuple hlt items.size 0 _ _ ⟨_,CM _ rfl,rfl,rfl⟩ (ht.push _) (by omega) fun h1 hit1 hs1=>?_));rw[show M7 items.size (List.drop 0 items.toList)=items.toList by rw[Lj];exact Fj (by simp),if_neg (by simp)];have kp:∀b o,s.heap.get? b=some o->h1.get? b=some o:=fun b o q=>(hs1.2 b<|D0<|CP q).trans (CB _ q);refine Cy (DQ (jO (hh.keeps fun b o C q _=>kp b o q) hit1 ((ht.push _).extBut hs1.extBut hlt) (by simp) fun h2 he2=>?_));simp only[Option.isSome_none,Dm,if_false];exact CG<|hQ h2 fun b o hb q=>he2 b o hb<|kp b o q
theorem i7{env:Env}{elts:List Expr}{x1}{pos:Pos}{t:Addr}{items:Array CD}{Q:Unit->CH->Prop}(hh:Hdl A s.heap)(ht:MW s.heap t items)
  (hn:(assignEach elts env).length=items.size) (hstar:(assignEach elts env).findIdx? (·.1)=none)
  (h:∀h',F9 s.heap.objs.size s.heap h'->wpAny (model prog w) A (assignInOrder ((assignEach elts env).map (·.2)) items.toList) Q E {s with heap:=h'}):
  wpAny (model prog w) A (assign (.Tuple elts x1 pos) env<|.ref t) Q E s:=by
 rw[assign_Tuple];refine Cy<|F4 ?_;unfold unpack;rw[hn,hstar];exact Cy<|DQ<|nE hh ht h
end
def HdX(X:Cx):Prop:=∃(x C:Addr)(od:Option Addr)(oe:Obj),X.A.handled=some (.ref x)/\Held oe C od/\X.s₀.heap.get? x=some oe/\X.H₀ x=none/\x∉X.fs/\x∉X.ex
section
variable{X:Cx}{pins:List (Addr×Obj)}{σ:St}{H:Hp}{s:CH}
theorem Inv.hdl(I:Inv X pins σ H s)(x:HdX X):Hdl X.A s.heap:=by
 obtain⟨a,C,od,oe,h1,h2,h3,h4,h5,h6⟩:=x;exact⟨a,C,od,oe,h1,I.base.keep a oe h3 h4 h5 h6,h2⟩
theorem HdX.comp{scope:Fm}{N:List Str}{C:Addr}{fp:List Addr}(x:HdX X)(I:Inv X pins σ H s)(f:∀b∈fp,FpOk X pins H b):HdX (ao X scope N s H C fp):=by
 obtain⟨a,C',od,oe,h1,h2,h3,h4,h5,h6⟩:=x;refine⟨a,C',od,oe,h1,h2,I.base.keep a oe h3 h4 h5 h6,I.base.free a oe h3 h4 h6,fun m=>?_,fun m=>?_⟩
 ·rcases CW.mp (I.stkSub a m)with z | z
  ·have:=CP h3;rw[z]at this;exact absurd (CN this I.ok.above)<|DH _
  ·exact h5 z
 ·rcases (f a m).2.2.2.1 with z | z;·exact h6 z
  ·exact absurd (CN (CP h3) z)<|DH _
end
structure TurnH(P:CT)(w:D6)(K:CF)(A:Dr)(tg:Expr)(J:It)(fp:List Addr)(it:Addr)(tn:Nat->Heap->Prop):Prop where
 obj:∀i h,tn i h->∀b∈fp,∃o,h.get? b=some o/\∀v,o.data≠.cell v
 keep:∀i h h',tn i h->(∀b∈fp,∀o,h.get? b=some o->h'.get? b=some o)->tn i h'
 item:∀(X:Cx),X.prog=P->X.w=w->X.K=K->X.A=A->HdX X->∀(i:Nat)(pins:List (Addr×Obj))(s:CH)(σ:St)(H:Hp)(E:CD->CH->Prop),Inv X pins σ H s->(∀b∈fp,FpOk X pins H b)->tn i s.heap->J.go i H->
  wpAny (model P w) X.A (pyNext<|.ref it) (fun r s1=>∃u,r=some u/\
   wpAny (model P w) X.A (letOwnedTupleGo tg (.ref it) u) (fun _ s2=>∃x H',Inv X pins σ H' s2/\RelV x u/\J.yld i H x H'/\tn (i+1) s2.heap/\∀b∈fp,H' b=none) E s1) E s
 done:∀(X:Cx),X.prog=P->X.w=w->X.K=K->X.A=A->HdX X->∀(i:Nat)(pins:List (Addr×Obj))(s:CH)(σ:St)(H:Hp)(E:CD->CH->Prop),Inv X pins σ H s->(∀b∈fp,FpOk X pins H b)->tn i s.heap->J.stop i H->
  wpAny (model P w) X.A (pyNext<|.ref it) (fun r s1=>r=none/\Inv X pins σ H s1) E s
 self:∀(A:Dr)(i:Nat)(s:CH)(Q:CD->CH->Prop)(E:CD->CH->Prop),tn i s.heap->Q (.ref it) s->wpAny (model P w) A (pyIter<|.ref it) Q E s
theorem oQ{P:CT}{w:D6}{K:CF}{A:Dr}{tg:Expr}(a it:Addr):TurnH P w K A tg (Bv K a) [it] it (fun i h=>h.IsListIter it a i) where
 obj:=(gp (P:=P) (w:=w) (K:=K) (tg:=tg) a it).obj
 keep:=(gp (P:=P) (w:=w) (K:=K) (tg:=tg) a it).keep
 self:=(gp (P:=P) (w:=w) (K:=K) (tg:=tg) a it).self
 item:=by
  intro X hP hw hK hA hx i pins s σ H E I hf st hg;subst hP hw hK hA;obtain⟨xs,x,hq,hx⟩:=hg;obtain⟨its,rv,p,hz⟩:=I.list hq;obtain⟨u,hu,ru⟩:=rv.get hx;obtain⟨f0,f1,f2,f3,f4,f5⟩:=hf it (by simp);refine II st p.isList (x:=u) (by simpa using hu) fun h' st' sb=>?_;have I1:Inv X pins σ H {s with heap:=h'}:=I.turned (t':=s.toks) (fun b o hb e=>(sb.2 b hb).trans e) f0 f1 f3 f4 f5;obtain⟨o,e,c,d⟩:=id st';exact⟨u,rfl,kY (s:={s with heap:=h'}) e c d (by decide) ⟨x,H,I1,ru,⟨rfl,fun ys hy=>by rw[I.list_inj hy hq];exact hx⟩,st',fun b hb=>(hf b hb).1⟩⟩
 done:=by
  intro X hP hw hK hA hx i pins s σ H E I hf st hg;subst hP hw hK hA;obtain⟨xs,hq,hl'⟩:=hg;obtain⟨its,rv,p,hz⟩:=I.list hq;obtain⟨f0,f1,f2,f3,f4,f5⟩:=hf it (by simp);have hl:=rv.length;exact kU (I.hdl hx) st p.isList (by simp;omega) fun h' eb=>⟨rfl,I.turned (t':=s.toks) (fun b o hb e=>eb b o hb e) f0 f1 f3 f4 f5⟩
def BK(X:Cx)(tg iter:Expr)(wi:TI):Prop:=
 ∀(pins:List (Addr×Obj))(s:CH)(σ:St)(H:Hp)(R:It->Hp->Prop),Inv X pins σ H s->wi σ H R->
  wpAny (model X.prog X.w) X.A (eval iter X.env) (fun v s1=>wpAny (model X.prog X.w) X.A (pyIter v) (fun itv s2=>∃(it:Addr)(fp:List Addr)(tn:Nat->Heap->Prop)(J:It)(H':Hp),itv=.ref it/\Inv X pins σ H' s2/\TurnH X.prog X.w X.K X.A tg J fp it tn/\tn 0 s2.heap/\(∀b∈fp,FpOk X pins H' b)/\R J H') X.xe s1) X.xe s
section
variable{X:Cx}{tg:Expr}{K:CF}
theorem uh{l:Expr}{tl:TE}(hK:X.K=K)(hl:PE X l tl):BK X tg l (pJ K tl):=by
 subst hK;intro pins s σ H R I h;refine bF (hl pins s σ H _ I h) fun v s1 zz=>?_;obtain⟨x,H1,I1,r1,q1⟩:=zz;obtain⟨a,e,⟨xs,hq⟩,q⟩:=q1;subst e;cases r1;obtain⟨its,rv,p,hz⟩:=I1.list hq;refine GD p.isList ?_;refine⟨s1.heap.objs.size,[s1.heap.objs.size],_,_,H1,rfl,I1.kept (t':=s1.toks) fun b o e=>CB _ e,oQ a _,⟨_,CM _ rfl,rfl,rfl⟩,fun b hb=>?_,q⟩;have e:b=s1.heap.objs.size:=by simpa using hb
 subst e;exact I1.fpOk (CU _)<|I1.hok.fresh<|CU _
theorem wx{pos:Pos}{es:List Expr}{k:Nat}{t:vW}{n:Nat}(hK:X.K=K)(hx:HdX X)(h:zC X es t)
  (hn:(assignEach es X.env).length=n:=by rfl) (hst:(assignEach es X.env).findIdx? (·.1)=none:=by rfl):PG X (.Tuple es k pos) (cb K n t):=by
 subst hK;intro pins s σ H v u Q I r hw;obtain⟨a,xs,e1,hq,hl,hw⟩:=hw;subst e1;cases r;obtain⟨its,rv,ht,hz⟩:=I.tuple hq;refine i7 (I.hdl hx) ht (by simp[hn,<-hl,rv.length]) hst fun h' hx=>?_;have I1:Inv X pins σ H {s with heap:=h'}:=I.kept (t':=s.toks) fun b o e=>hx b o (D0<|CP e) e;exact h pins _ σ H xs _ Q I1 (by simpa using rv) hw
end
section
variable{X:Cx}{scope:Fm}{N:List Str}{cap:List (Option Nat)}{tg iter elt:Expr}{ifs:List Expr}{pos:Pos}{wi:TI}{g:TG}{tf:TT}{te:TE}
theorem oR(S:CompScope X scope N cap)(hx:HdX X)
  (hg:∀s H C fp,HdX (ao X scope N s H C fp)->PG (ao X scope N s H C fp) tg g) (hf:∀s H C fp,pT (ao X scope N s H C fp) ifs tf) (he:∀s H C fp,PE (ao X scope N s H C fp) elt te)
  {pins:List (Addr×Obj)} {σ:St} {H2:Hp} {s2:CH} {it:Addr} {fp:List Addr} {tn:Nat->Heap->Prop} {J:It} {Qv:VK} {E:CD->CH->Prop} {RR:CD->Addr->KA->CH->Prop}
  (I2:Inv X pins σ H2 s2) (T:TurnH X.prog X.w X.K X.A tg J fp it tn) (st2:tn 0 s2.heap) (f2:∀b∈fp,FpOk X pins H2 b) {W:Nat->Nat->List V->Hp->Prop} (w0:∃m,W 0 m [] H2)
  (turn:∀i m ys H,W i m ys H->ys.length< sizeLine/\((J.stop i H/\∀D,H D=none->Qv (.ref D) (cI H D<|.lst ys))\/
   (J.go i H/\∃N:List V->Hp->Prop,(∀ys' H',N ys' H'->∃m',m'<m/\W (i+1) m' ys' H')/\∀x H',J.yld i H x H'->g x (aZ cap σ) H' fun σ2 H2=>Keep (aZ cap σ) σ2/\tf σ2 H2 fun b H3=>if b=true then te σ2 H3 fun y H4=>N (ys++[y]) H4 else N ys H3)))
  (fin:∀(D C:Addr) (σ':St) (H':Hp) (s':CH) (its:List CD) (k:Nat) (ys:List V),s2.heap.objs.size<=D->s2.heap.objs.size<=C->D≠C->Inv (ao X scope N s2 H2 C fp) [(D,dj its k)] σ' H' s'->Vals ys its->ys.length<=sizeLine->
   Qv (.ref D) (cI H' D (.lst ys))->RR (.ref D) C (.ok .next) s'):
  wpAny (model X.prog X.w) X.A (newList []) (fun acc s₃=>wpAny (model X.prog X.w) X.A (newFunctionEnv scope X.env.globals (bT X.env scope.names []) [] X.env.qual none .none<|some X.env) (fun cenv s₄=>
   codeAny (model X.prog X.w) X.A (.compStart (.ListComp elt [⟨tg,iter,ifs,0⟩] scope pos) 0 (.ref it) acc {cenv with scope:=relabel scope X.env}) (RR acc cenv.locals) s₄) E s₃) E s2:=by
 have frz:HdX X:=hx;refine DK<|gL ?_;generalize hD:s2.heap.objs.size=D;generalize hH3:s2.heap.push {cls:=.type "list",dict:=none,data:=.seq ([]:List CD).toArray}=h3;have hz3:h3.objs.size=D+1:=by rw[<-hH3,DJ,hD]
 dsimp only;have eC:({s2 with heap:=h3}:CH).heap.objs.size=D+1:=hz3;rw[show h3.objs.size=D+1 from hz3];generalize hH4:pushCells (h3.push {cls:=.type "dict",data:=.dict #[]}) scope.names=h4;have hz3':(h3.push {cls:=.type "dict",data:=.dict #[]}).objs.size=D+1+1:=by rw[DJ,hz3]
 have ck:Lb h4 (D+1+1) (cellsFrom (D+1+1) scope.names []):=by
  have:=Km scope.names (h3.push {cls:=.type "dict",data:=.dict #[]}) (D+1+1) [] ⟨fun _ _ hm=>(nomatch hm),Fz⟩ (by rw[hz3'];exact CU _);rw[hz3',hH4]at this;exact this
 have k23:∀b o,s2.heap.get? b=some o->h3.get? b=some o:=fun b o e=>by rw[<-hH3];exact CB _ e
 have k34:∀b o,h3.get? b=some o->h4.get? b=some o:=fun b o e=>by rw[<-hH4];exact G1 _ _ b o<|CB _ e
 have hD4:h4.get? D=some (dj [] 0):=k34 _ _ (by rw[<-hH3,<-hD];exact CM _ rfl);have hn4:h4.Ns (D+1) fun _=>none:=by
  rw[<-hH4,<-hz3];exact(KU h3<|.type "dict").keeps (G1 _ _)
 have fpD:∀b∈fp,b<D:=fun b hb=>by
  obtain⟨o,e,_⟩:=T.obj _ _ st2 b hb;rw[<-hD];exact CP e
 have hlt:∀b∈fp,b<D+1:=fun b hb=>GJ<|fpD b hb;have hDC:s2.heap.objs.size<=D+1:=by rw[hD];exact G9 _
 have hDs:s2.heap.objs.size<=D:=by rw[hD];exact CU _
 have IC:Inv (ao X scope N s2 H2 (D+1) fp) [] (aZ cap σ) H2 {s2 with heap:=h4}:=
  gM S I2 hDC ck f2 hlt ⟨_,_,rfl⟩ hn4 fun b o e=>k34 b o<|k23 b o e
 have okC:=IC.ok;have nfs:∀{b:Addr},s2.heap.objs.size<=b->b∉frs X.stack:=fun{b}hb hm=>by
  obtain⟨_,o,ho,_⟩:=I2.stack.mem hm;exact absurd (CN (CP ho) hb)<|DH _
 have frc:∀x∈scope.names,x.2=.free->∃c,X.env.cells.lookup x.1=some c:=fun x hx hk=>I2.ok.has x.1<|S.free x hx hk;have cellsD:∀x c,(ao X scope N s2 H2 (D+1) fp).env.cells.lookup x=some c->c≠D:=fun x c e=>by
  rcases cM frc e with a|⟨_,a⟩
  ·have q:D+1+1<=c:=(ck.empty x c a).2;exact ER<|CN (CN (EK D)<|G9 _) q
  ·obtain⟨v,q⟩:=I2.cell x c a;have:=q.lt;rw[hD]at this;exact D0 this
 have fpO:∀{H':Hp}{its:List CD}{k:Nat},(∀b∈fp,H' b=none)->∀b∈fp,FpOk (ao X scope N s2 H2 (D+1) fp) [(D,dj its k)] H' b:=fun{H' its k}hn b hb=>
  ⟨hn b hb,D0<|hlt b hb,okC.exfs b hb,.inl hb,(okC.exf b hb).2,fun p hp=>by
   have e:p=(D,dj its k):=by simpa [ao] using hp
   subst e;exact ER (fpD b hb)⟩
 have pinD:∀{σ':St}{H':Hp}{s':CH}{its:List CD}{k:Nat},Inv (ao X scope N s2 H2 (D+1) fp) [] σ' H' s'->s'.heap.get? D=some (dj its k)->H' D=none->Inv (ao X scope N s2 H2 (D+1) fp) [(D,dj its k)] σ' H' s':=fun{σ' H' s' its k}J e n=>
  J.pins_of fun p hp=>by
   have e':p=(D,dj its k):=by simpa using hp
   subst e';exact⟨e,n,D0<|EK _,nfs hDs,fun v z=>by
    have z':Iu its.toArray k=FG v:=z;cases z'⟩
 have loop:codeAny (model X.prog X.w) X.A (.compLoop (.ListComp elt [⟨tg,iter,ifs,0⟩] scope pos) 0 (.ref it) (.ref D) (ao X scope N s2 H2 (D+1) fp).env) (RR (.ref D)<|D+1) {s2 with heap:=h4}:=by
  obtain⟨m0,w0⟩:=w0;refine gX (fun n s'=>∃i ys its k σ' H',Inv (ao X scope N s2 H2 (D+1) fp) [(D,dj its k)] σ' H' s'/\tn i s'.heap/\(∀b∈fp,H' b=none)/\Vals ys its/\(∀(j:Nat)(v:V),(aZ cap σ)[j]? =some (some v)->σ'[j]? =some (some v))/\W i n ys H') ?_ m0
   ⟨0,[],[],0,aZ cap σ,H2,pinD IC hD4<|I2.hok.fresh hDs,T.keep _ _ _ st2 fun b hb o e=>k34 b o<|k23 b o e,fun b hb=>(f2 b hb).1,.nil,fun _ _ e=>e,w0⟩
  rintro n s3 ⟨i,ys,its,k,σ3,H3,I3,st3,fr3,rv,kp,w3⟩;obtain⟨hyl,tr⟩:=turn i n ys H3 w3;have pin3:=I3.pin (D,dj its k)<|Dd _ CZ;rcases tr with⟨stop,qn⟩|⟨go,NN,hNN,step⟩
  ·refine bF (T.done (ao X scope N s2 H2 (D+1) fp) rfl rfl rfl rfl (hx.comp I2 f2) i _ s3 σ3 H3 _ I3 (fpO fr3) st3 stop) fun r s4 zz=>?_;obtain⟨hr,I4⟩:=zz;subst hr;exact fin D (D+1) σ3 H3 s4 its k ys hDs hDC (D0<|EK _) I4 rv (Fx hyl)<|qn D pin3.2.1
  ·have I3':Inv (ao X scope N s2 H2 (D+1) fp) [(D,dj its k)] (aZ cap σ) H3 s3:=I3.weak (by rw[I3.len,IC.len]) kp;refine bF (T.item (ao X scope N s2 H2 (D+1) fp) rfl rfl rfl rfl (hx.comp I2 f2) i _ s3 _ H3 _ I3' (fpO fr3) st3 go) fun r s4 zz=>?_;obtain⟨u,hr,h4⟩:=zz;subst hr;refine bF h4 fun _ s5 zz=>?_;obtain⟨x,H5,I5,r5,y5,st5,fr5⟩:=zz;have I5':=I5.pinned (fpO fr5)<|T.obj _ _ st5;refine bF (hg _ _ _ _ (hx.comp I2 f2) _ s5 _ H5 x u _ I5' r5<|step x H5 y5) fun _ s6 zz=>?_;obtain⟨σ6,H6,I6,kp6,q6⟩:=zz;refine bF (hf _ _ _ _ _ s6 σ6 H6 _ I6 q6) fun ok s7 zz=>?_;obtain⟨H7,I7,q7⟩:=zz;have back:∀{s8:CH}{H8:Hp},Inv (ao X scope N s2 H2 (D+1) fp) ([(D,dj its k)]++gJ fp s5.heap) σ6 H8 s8->tn (i+1) s8.heap/\(∀b∈fp,H8 b=none)/\s8.heap.get? D=some (dj its k)/\H8 D=none:=fun{s8 H8}I8=>by
    have at_:∀b∈fp,∀o,s5.heap.get? b=some o->s8.heap.get? b=some o/\H8 b=none:=fun b hb o e=>by
     have z:=I8.pin (b,o)<|Dd _<|Dd _<|dt hb e;exact⟨z.1,z.2.1⟩
    have pd:=I8.pin (D,dj its k)<|Dd _<|EI _ CZ;refine⟨T.keep _ _ _ st5 fun b hb o e=>(at_ b hb o e).1,fun b hb=>?_,pd.1,pd.2.1⟩;obtain⟨o,e,d⟩:=T.obj _ _ st5 b hb;exact(at_ b hb o e).2
   cases ok with
   |false=>
    rw[if_neg CS]at q7 ⊢;obtain⟨m',hm,w'⟩:=hNN _ _ q7;obtain⟨t7,f7,d7,n7⟩:=back I7;exact⟨m',hm,i+1,ys,its,k,σ6,H7,I7.unpinned,t7,f7,rv,fun j v e=>MC kp6 e,w'⟩
   |true=>
    rw[if_pos rfl]at q7 ⊢;refine bF (he _ _ _ _ _ s7 σ6 H7 _ I7 q7) fun y8 s8 zz=>?_;obtain⟨y,H8,I8,r8,q8⟩:=zz;obtain⟨m',hm,w'⟩:=hNN _ _ q8;obtain⟨t8,f8,d8,n8⟩:=back I8;refine append_at (D:=D) (its:=its.toArray) (n:=k) d8 (fun h' hs' hD'=>?_) (by rw[CY,<-rv.length];exact Fx hyl);have J0:Inv (ao X scope N s2 H2 (D+1) fp) [] σ6 H8 s8:=I8.pins_of fun p hp=>by cases hp
    have J1:Inv (ao X scope N s2 H2 (D+1) fp) [] σ6 H8 {s8 with heap:=h'}:=J0.turned (it:=D) (t':=s8.toks) (fun b o hb e=>(hs'.2 b hb).trans e) n8 (D0<|EK _) (.inr hDs) cellsD fun p hp=>by
     have:p∈([]:List (Addr×Obj)):=hp;cases this
    refine⟨m',hm,i+1,ys++[y],its++[y8],k+1,σ6,H8,pinD J1 (by simpa using hD') n8,T.keep _ _ _ t8 fun b hb o e=>(hs'.2 b<|D0<|fpD b hb).trans e,f8,rv.append<|.cons r8 .nil,fun j v e=>MC kp6 e,w'⟩
 exact IQ loop<|DW (T.self _ 0 _ _ _ (T.keep _ _ _ st2 fun b hb o e=>k34 b o<|k23 b o e) loop) (fun _ _ h=>h) fun _ _ h=>h
theorem ui(S:CompScope X scope N cap)(hx:HdX X)(hi:BK X tg iter wi)
  (hg:∀s H C fp,HdX (ao X scope N s H C fp)->PG (ao X scope N s H C fp) tg g) (hf:∀s H C fp,pT (ao X scope N s H C fp) ifs tf) (he:∀s H C fp,PE (ao X scope N s H C fp) elt te)
  (hs:∀x,foldedSetIterable iter X.env x=pure x:=by intro _;rfl):PE X (.ListComp elt [⟨tg,iter,ifs,0⟩] scope pos) (mX cap wi g tf te):=by
 intro pins s σ H Q I h;rw[LU];have frc:∀x∈scope.names,x.2=.free->∃c,X.env.cells.lookup x.1=some c:=fun x hx hk=>I.ok.has x.1<|S.free x hx hk;refine F7 (use:=none) rfl hs (cT frc) S.kind (eA S)<|bF (hi pins s σ H _ I h) fun v s1 h1=>bF h1 fun itv s2 h2=>?_;obtain⟨it,fp,tn,J,H2,rfl,I2,T,st2,f2,W,w0,turn⟩:=h2;refine oR (RR:=fun acc C=>compPost (model X.prog X.w) X.A X.xe none (EP X pins σ Q) acc C) S hx hg hf he I2 T st2 f2 w0 turn fun D C σ' H' s' its k ys hD hC hDC I' rv hl q=>?_;obtain⟨m,hn,_⟩:=I'.loc;exact⟨m,hn,fun h' hs'=>⟨.ref D,_,jx I2 f2 hD hC hDC I' rv hl hs',rfl,q⟩⟩
end
end L2
namespace L2
open PySem PySem.Spec PySem.Calls PyProof.Rows
open PySem.W (findIn findObj mroIn looks_findIn looks_find looks_mroIn class_get KitX clsIn Frag)
structure XK1(K:Frag)(C:Addr):Prop where
 ga:findIn K (.ref C) "__getattribute__"=some (some<|.builtin "BaseException.__getattribute__")
 gt:findIn K (.ref C) "__getattr__"=some none
 cl:∀od,findObj K C od "__class__"=some (.bind (.builtin "getset_descriptor.__get__")<|.builtin "object.__class__")
 ob:mroIn K C (.type "object")=some true
 be:mroIn K C (.type "BaseException")=some true
section
variable{prog:CT}{w:D6}{A:Dr}{E:CD->CH->Prop}{s:CH}{K:Frag}{x C:Addr}{ox:Obj}{od:Option Obj}
theorem rL{Q:Option CD->CH->Prop}(Z:XK1 K C)(X:K.In s.heap)(I:GF s.heap x ox C od)(h:Q (some<|.ref C) {s with toks:=s.toks+1}):wpAny (model prog w) A (getAttr? (.ref x) "__class__") Q E s:=by
 obtain⟨hh,g,d,t,os⟩:=s;have L0:=I.type (M:=model prog w);have L1:=Hz (M:=model prog w) X Z.ga;have L2:=Hz (M:=model prog w) X Z.gt;have L3:=K8 (M:=model prog w) X I<|Z.cl od;have L4:=Ju (M:=model prog w) X Z.be;unfold getAttr? getAttrBy? getAttrBy;refine Cy<|wpAny_mkText<|Cy<|EF<|DQ<|Cy<|L0.at<|Cy<|L1.at ?_;dsimp only;rw[show(LW "BaseException.__getattribute__"==LW "object.__getattribute__")=false from by decide +kernel,Bool.and_false,if_neg (by decide)];unfold getAttrByItsOwn hookBefore;rw[if_pos (show onTheHeap (D8 C)=true from rfl)];refine Cy<|L2.at ?_;refine Cy<|EF<|DQ ?_;unfold callGetattribute;rw[if_neg (by simp)];unfold boundAndCalled;rw[HG.ga.bind];have LI:N2 (model prog w) hh (isInstance (.ref x)<|.type "BaseException") true:=L0.andThen L4;have chk:∀{A':Dr}{E':CD->CH->Prop}{Q':Unit->CH->Prop}{tk:Nat},Q' () ⟨hh,g,d,tk,os⟩->wpAny (model prog w) A' (checkBuiltinCall "BaseException.__getattribute__" ⟨[.ref x,.str "__class__" t],[]⟩) Q' E' ⟨hh,g,d,tk,os⟩:=fun{A' E' Q' tk}hq=>by
  have hk:builtinKind "BaseException.__getattribute__"=some .slot:=by decide +kernel
  have hsplit:splitId "BaseException.__getattribute__"=some ("BaseException","__getattribute__"):=by decide +kernel
  have ha:=F.args_bexc_ga (.ref x)<|.str "__class__" t;simp only[checkBuiltinCall,hk,hsplit];refine Cy<|LI.at ?_
  repeat wp_step
  exact hq
 refine Cy<|CG<|JR<|Jv HG.ga.plain F.entry_bexc_ga<|chk ?_;refine Cy (m:=slotArgs _ _ _)<|CG ?_;refine Cy<|CG<|Cy<|L0.at<|Cy<|L3.at ?_;show wpAny _ _ (holding [.builtin "object.__class__"] (call (.builtin "getset_descriptor.__get__") [.builtin "object.__class__",.ref x,.ref C])>>=ret) _ _ _;refine Cy<|DQ<|JR<|M8 (s:=⟨hh,g,d,t+1,os⟩) (ox:=ox) (od:=od) X I Z.ob<|CG ?_;exact PySem.W.handed_on rfl<|CG h
theorem uj(Z:XK1 K C):KitX K (.ref x) (.ref C) (fun h=>GF h x ox C od) where
 ty:=fun _ _ _ I=>I.type
 it:=fun _ _ X _=>by
  obtain⟨cd,a,_⟩:=Iz.mp Z.ob;unfold clsIn at a;split at a
  ·rename_i c' d' cd' sl' ho;intro A' Q' E' s' k q;unfold isType loadHead;exact Cy<|wpAny_loadPart (k _ _<|X _ _ ho)<|CG q
  ·cases a
 ne:=fun h tp dd its n sl X htp=>by
  obtain⟨cd,a,_⟩:=Iz.mp Z.ob;refine Bool.eq_false_iff.mpr fun q=>?_;have e:C=tp:=LV<|beq_iff_eq.mp q;subst e;unfold clsIn at a;split at a
  ·rename_i c' d' cd' sl' ho;have z:=(X _ _ ho).symm.trans htp;cases z
  ·cases a
 ca:=fun X I k=>rL Z X I k
theorem oS{c:CD}{b:Bool}{Q:CD->CH->Prop}(Z:XK1 K C)(X:K.In s.heap)(I:GF s.heap x ox C od)(e:DR K (.ref C) c=some b)(h:∀tk,Q (.bool b) {s with toks:=tk}):
  wpAny (model prog w) A (call (.builtin "isinstance") [.ref x,c]) Q E s:=Eh (uj Z) X I e (fun z=>by cases z) h
end
end L2
namespace L2
open PySem PySem.Spec PySem.Calls PyProof.Rows
def HdE(X:Cx)(x C:Addr):Prop:=∃(oe:Obj)(od:Option Addr),(∀d,od=some d->∃o u,X.H₀ d=some (.frz o u))/\X.A.handled=some (.ref x)/\Held oe C od/\X.s₀.heap.get? x=some oe/\X.H₀ x=none/\x∉X.fs/\x∉X.ex
theorem HdE.hdx{X:Cx}{x C:Addr}(h:HdE X x C):HdX X:=let ⟨oe,od,_,z⟩:=h;⟨x,C,od,oe,z⟩
theorem Inv.inst{X:Cx}{pins:List (Addr×Obj)}{σ:St}{H:Hp}{s:CH}{x C:Addr}(I:Inv X pins σ H s)(h:HdE X x C):∃ox od,GF s.heap x ox C od:=by
 obtain⟨oe,od,hf,h1,⟨⟨h2,h2'⟩,vs,h7,h8⟩,h3,h4,h5,h6⟩:=h;have nc:Lk oe=true:=by unfold Lk;rw[h7]
 have hk:=I.base.keep x oe h3 h4 h5 h6;cases od with
 |none=>exact⟨oe,none,hk,h2,nc,by rw[h2'];trivial⟩
 |some d=>
  obtain⟨o,u,z⟩:=hf d rfl;have:=I.hok d _<|I.base.frzs d o u z;exact⟨oe,some o,hk,h2,nc,by rw[h2'];exact this.1⟩
def kv:V->Option CD
 | .ref D=>some<|.ref D
 | .ty T=>some<|.type T
 |_=>none
section
variable{X:Cx}{K:CF}{x C:Addr}
theorem aU(hK:X.K=K)(h:HdE X x C)(Z:XK1 K C):dC X (.builtin "isinstance") (fun xs H Q=>∃v c b,xs=[.ref x,v]/\kv v=some c/\DR K (.ref C) c=some b/\Q (.bl b) H):=by
 subst hK;intro pins s σ H xs us Q I r q;obtain⟨v,c,b,rfl,hv,e,q⟩:=q;obtain⟨u,w',rfl,rx,rv⟩:=sP r;obtain rfl:u=.ref x:=rx;have hw:w'=c:=by
  unfold kv at hv;split at hv;·cases hv;exact rv
  ·cases hv;exact rv
  ·cases hv
 subst hw;obtain⟨ox,od,J⟩:=I.inst h;exact oS Z I.kIn J e fun tk=>⟨.bl b,H,I.tok _,rfl,q⟩
end
structure RoomH(k:Nat)(A:Dr):Prop where
 dp:A.depth+3*k+5<recursionLimit
 un:A.units+16*k+200<cLine
theorem Room.h{k:Nat}{A:Dr}(r:Room k A)(v:Option CD):RoomH k (A.mark v):=⟨r.dp,r.un⟩
abbrev Ao(P:CT)(w:D6)(K:CF)(mg:Str->Option CD)(base:Heap)(N:List Str)(qual:Str)(scope:Fm)(f:Addr)(cd:CD)(A:Dr)(outer:List Env)(s0:CH)(H0:Hp)(E:XK):Cx:={kI CX0 P w K mg base N qual scope f cd A outer s0 H0 E with calm:=false,xe:=fun _ _=>False}
structure FnOkH(P:CT)(w:D6)(K:CF)(mg:Str->Option CD)(base:Heap)(k:Nat)(f:Addr)(fd:De)(ps:List Str)(sp:Addr->Addr->Sp):Prop where
 len:∀x C vs H Q E,sp x C vs H Q E->vs.length=ps.length
 run:∀(x C:Addr)(od:Option Addr)(oe:Obj)(A:Dr)(outer:List Env)(s:CH)(H:Hp)(args:Args)(us:List CD)(vs:List V)(Q:VK)(E:XK),RoomH k A->A.handled=some (.ref x)->Held oe C od->(∀d,od=some d->∃o u,H d=some (.frz o u))->s.heap.get? x=some oe->H x=none->x∉frs outer->
  Env0 P w K mg base A outer s H->JA s fd args (ps.zip us)->Vals vs us->sp x C vs H Q E->codeAny (model P w) A (.call (.ref f) args) (CR CX0 outer P w H s Q E) s
section
variable{P:CT}{w:D6}{K:CF}{mg:Str->Option CD}{base:Heap}
theorem Fun.okH{x0 qual:Str}{st:Stmt}{f:Addr}{fd:De}{N ps:List Str}{k:Nat}{sp:Addr->Addr->Sp}(F:Fun K x0 qual st f fd)(S:FnScope N ps (defScope st))(len:∀x C vs H Q E,sp x C vs H Q E->vs.length=ps.length)
  (hbody:∀(x C:Addr) (cdv:CD) (A:Dr) (outer:List Env) (s:CH) (H:Hp) (vs:List V) (Q:VK) (E:XK),HdE (Ao P w K mg base N qual (defScope st) f cdv A outer s H E) x C->RoomH k (A.deeper<|envOfC qual (defScope st) s.heap.objs.size f cdv)->sp x C vs H Q E->
   ∃t,PSs (Ao P w K mg base N qual (defScope st) f cdv A outer s H E) (defBody st) t/\t {nx:=fun _ H'=>Q .non H',rt:=Q} (start N vs) H):FnOkH P w K mg base (k+1) f fd ps sp:=by
 obtain⟨oc,od,kV,doc,pm,an,cdv,ct,osl,rfl,lk,hcd⟩:=F.ex;refine⟨len,fun x C od oe A outer s H args us vs Q E hr hA hh hfz hx hHx hxo e0 hb r hsp=>?_⟩;have hl:=len _ _ _ _ _ _ hsp;have KX:K.In s.heap:=e0.mod.kin.keeps fun b o e=>(e0.bs b o e).1;have lim:s.heap.NoLimit:=e0.mod.nolimit.keeps fun b o e=>(e0.bs b o e).1;have hkind:∀y∈ps.zip us,(defScope st).names.lookup y.1=some .local\/((defScope st).names.lookup y.1=some .cell/\((cellsFrom (s.heap.objs.size+1) (defScope st).names []).lookup y.1).isSome=true):=fun⟨n,v⟩hy=>by
  rcases S.par n (FZ hy).1 with q|q;·exact .inl q
  ·exact .inr ⟨q,FT _ _ _<|.inl q⟩
 refine J9 (by have:=hr.dp;omega) (KX _ _ lk) rfl S.co S.gen rfl (JT KX hcd)<|hb _ _ _ _ ?_;refine HD S.kind hkind fun env he s1 z=>?_;subst he;refine⟨lim.keeps z.toInCall.keep,codeAny_func ?_⟩;have hE:HdE (Ao P w K mg base N qual (defScope st) f cdv A outer s H E) x C:=⟨oe,od,hfz,hA,hh,hx,hHx,hxo,fun m=>absurd (show x∈([]:List Addr)from m) (by simp)⟩
 obtain⟨t,ht,hq⟩:=hbody x C cdv A outer s H vs Q E hE ⟨by have:=hr.dp;show A.depth+1+3*k+5<_;omega,by have:=hr.un;show A.units+3+16*k+200<_;omega⟩ hsp;have e0':Env0 P w K mg base {A with handled:=none} outer s H:=⟨e0.frames,e0.mod,e0.bs,e0.bsz,e0.funs,e0.frf,e0.hok,e0.bare⟩
 have I0:Inv (kI CX0 P w K mg base N qual (defScope st) f cdv {A with handled:=none} outer s H E) [] (start N vs) H s1:=l9 S rfl e0' hl r z;have I:Inv (Ao P w K mg base N qual (defScope st) f cdv A outer s H E) [] (start N vs) H s1:=
  ⟨⟨I0.ok.mod,I0.ok.kind,I0.ok.glob,I0.ok.blt,I0.ok.above,I0.ok.inj,I0.ok.has,I0.ok.cab,fun z=>(nomatch z),Jp e0.frames,I0.ok.stk,I0.ok.exf,I0.ok.bs,I0.ok.bsz,I0.ok.noex,I0.ok.exfs,I0.ok.funs,I0.ok.frf⟩,I0.os,I0.bare,I0.base,I0.loc,I0.cell,I0.free,I0.freeC,I0.pin,I0.hok,I0.len⟩
 refine DW (ht [] s1 (start N vs) H _ I hq) (fun fl s' hs=>?_) fun e s' hs=>hs.elim;have fin:∀{σ':St}{H':Hp}{v:V}{u:CD},Inv (Ao P w K mg base N qual (defScope st) f cdv A outer s H E) [] σ' H' s'->RelV v u->Q v H'->CE outer P w H s Q u s':=
  fun{σ' H' v u}J rv q=>⟨v,H',J.os,J.bare,J.base,J.hok,rv,q⟩
 cases fl with
 |ret u=>obtain⟨v,σ',H',J,rv,q⟩:=hs;exact fin J rv q
 |next=>obtain⟨σ',H',J,q⟩:=hs;exact fin (v:=V.non) (u:=Df) J rfl q
 |brk=>obtain⟨_,_,_,q⟩:=hs;exact EO q
 |cont=>obtain⟨_,_,_,q⟩:=hs;exact EO q
end
def zF(od:Option Addr)(sp:Sp):Sp:=fun vs H Q E=>(∀d,od=some d->∃o u,H d=some (.frz o u))/\sp vs H Q E
section
variable{X:Cx}{k:Nat}{f x C:Addr}{od:Option Addr}{oe:Obj}{fd:De}{ps:List Str}{sp:Addr->Addr->Sp}{xn:Str}{p pos:Pos}{e:Expr}{es:List Expr}{t:TA}
theorem uk(F:FnOkH X.prog X.w X.K X.mg X.base k f fd ps sp)(hr:RoomH k X.A)(hA:X.A.handled=some (.ref x))(hh:Held oe C od)(hp:(x,oe)∈X.pn)(hg:Gl X xn)(hm:X.mg xn=some (.ref f))(hk:EE X.K (.ref f)=true)(hb:Binds X.K fd ps [])
  (ha:PA X (e::es) t) (hdb:(xn==("__debug__" :Str))=false:=by decide) (he:starEach (e::es) X.env=(false,eval e X.env)::starEach es X.env:=by rfl) (hpl:(backTo pos<|starEach es X.env).any (·.1)=false:=by rfl):
  PE X (.Call (.Name xn p) (e::es) [] pos) (aN (zF od<|sp x C) [] E0 t):=by
 intro pins s σ H Q I h;refine Gu<|gW I hg hm ?_ hdb;refine JS (h₀:=X.base) I.ok.mod.kin hk (bF (ha pos pins s σ H _ I h) fun us s1⟨vs,H1,I1,r,q⟩=>⟨I1.kIn,?_⟩) he hpl;obtain⟨g1,g2,g3,g4,_⟩:=I1.pin (x,oe)<|EI _ hp;have hfr:x∉frs X.stack:=fun m=>by
  rcases CW.mp (I1.stkSub x m)with z|z;·exact g3 z
  ·exact g4 z
 have q:zF od (sp x C) (vs++[]) H1 Q E0:=q;rw[F1]at q;obtain⟨hfz,q⟩:=q;rw[Gr];have hl:us.length=ps.length:=by rw[<-r.length];exact F.len _ _ _ _ _ _ q
 refine JR (GG (F.run x C od oe X.A X.stack s1 H1 ⟨us,[]⟩ us vs Q E0 hr hA hh hfz g1 g2 hfr I1.env0 (by have:=hb s1 us I1.kIn (by simpa using hl);simpa using this) r q) fun r s' hq=>?_);cases r with
 |error e=>exact hq.elim
 |ok fl=>
  cases fl with
  |ret u=>exact I1.after hq
  |next=>exact EO hq
  |brk=>exact EO hq
  |cont=>exact EO hq
end
end L2
namespace L2
open PySem PySem.Spec PySem.Calls PyProof.Rows Mi
section
variable{P:CT}{w:D6}{K:CF}{mg:Str->Option CD}{base:Heap}
theorem Fun.okR{x qual:Str}{st:Stmt}{f:Addr}{fd:De}{N ps:List Str}{k:Nat}{sp:Sp}(F:Fun K x qual st f fd)(S:FnScope N ps (defScope st))(len:∀vs H Q E,sp vs H Q E->vs.length=ps.length)
  (hbody:∀(cdv:CD) (A:Dr) (outer:List Env) (s:CH) (H:Hp) (vs:List V) (Q:VK) (E:XK),Room k (A.deeper<|envOfC qual (defScope st) s.heap.objs.size f cdv)->sp vs H Q E->
   ∃t,PSs (rK P w K mg base N qual (defScope st) f cdv A outer s H E) (defBody st) t/\t {nx:=fun _ H'=>Q .non H',rt:=Q} (start N vs) H):FnOk P w K mg base (CXR P w) (k+1) f fd ps sp:=by
 obtain⟨oc,od,kV,doc,pm,an,cdv,ct,osl,rfl,lk,hcd⟩:=F.ex;exact xO lk hcd S len fun A outer s H vs Q E hr hsp=>hbody cdv A outer s H vs Q E hr hsp
end
end L2
namespace Wb
open PySem L2 Mi
def Esc(Er:Nat->Prop)(cs:List Addr)(E:XK)(W:Wd):Prop:=∀j,Er j->∀x W',Ext W W'->W'.H x=none->E (.ref x) cs[j]? W'.H
theorem Esc.mono{Er:Nat->Prop}{cs:List Addr}{E:XK}{W W':Wd}(h:Esc Er cs E W)(e:Ext W W'):Esc Er cs E W':=fun j hj x W1 e1 hx=>h j hj x W1 (e.trans e1) hx
section
variable{Er:Nat->Prop}{α β γ δ ε ζ η:Type}
def um(R1:Rp α)(R2:Rp γ)(R3:Rp δ)(R4:Rp ε)(R5:Rp ζ)(cs:List Addr)(rt:Rt β)(m:α->γ->δ->ε->ζ->Res β):Sp:=fun vs H Q E=>∃(W:Wd)(a:α)(b:γ)(c:δ)(d:ε)(e:ζ)(v u w x y:V),W.H=H/\vs=[v,u,w,x,y]/\R1 W.G a v/\R2 W.G b u/\R3 W.G c w/\R4 W.G d x/\R5 W.G e y/\∃Er:Nat->Prop,Esc Er cs E W/\(m a b c d e).OkE Er fun r=>rt W r Q
variable{t1 t2 t3 t4 t5 t6:TE}{σ:St}{W W0 W':Wd}{cs:List Addr}{E:XK}{R1:Rp α}{R2:Rp γ}{R3:Rp δ}{R4:Rp ε}{R5:Rp ζ}{R6:Rp η}[Mono R1][Mono R2][Mono R3][Mono R4][Mono R5][Mono R6]{m1:Res α}{m2:Res γ}{m3:Res δ}{m4:Res ε}{m5:Res ζ}{m6:Res η}
theorem ly{R:Rp β}{m:α->γ->δ->ε->ζ->Res β}(hE:Esc Er cs E W)(h1:EV Er t1 σ W (sh R1) m1)(h2:EV Er t2 σ W (sh R2) m2)(h3:EV Er t3 σ W (sh R3) m3)(h4:EV Er t4 σ W (sh R4) m4)(h5:EV Er t5 σ W (sh R5) m5):EV Er (aN (um R1 R2 R3 R4 R5 cs (rs R) m) [] E<|ak t1<|ak t2<|ak t3<|ak t4<|ak t5 aQ) σ W (sh R) (m1.bind fun a=>m2.bind fun b=>m3.bind fun c=>m4.bind fun d=>m5.bind fun e=>m a b c d e):=fun W1 e1 Q k=>
 h1 W1 e1 _ ((CA k).imp fun a0 ka v0 W2 e2 r1=>h2 W2 (e1.trans e2) _<|(CA ka).imp fun b0 kb u0 W3 e3 r2=>h3 W3 ((e1.trans e2).trans e3) _<|(CA kb).imp fun c0 kc w0 W4 e4 r3=>h4 W4 (((e1.trans e2).trans e3).trans e4) _<|(CA kc).imp fun d0 kd x0 W5 e5 r4=>h5 W5 ((((e1.trans e2).trans e3).trans e4).trans e5) _<|(CA kd).imp fun e0 ke y0 W6 e6 r5=>⟨W6,a0,b0,c0,d0,e0,v0,u0,w0,x0,y0,rfl,rfl,Dv (R:=sh R1) (((e3.trans e4).trans e5).trans e6) r1,Dv (R:=sh R2) ((e4.trans e5).trans e6) r2,Dv (R:=sh R3) (e5.trans e6) r3,Dv (R:=sh R4) e6 r4,r5,Er,hE.mono<|((((e1.trans e2).trans e3).trans e4).trans e5).trans e6,ke.imp fun r kr u W' e hu=>kr u W' (((((e2.trans e3).trans e4).trans e5).trans e6).trans e) hu⟩)
end
theorem uo{α:Type}{Er:Nat->Prop}{cs:List Addr}{E:XK}{C:Addr}{te:TE}{R:Rw α}{m:Res α}{D:Ends}{σ:St}{W:Wd}{j:Nat}{β:Type}{P:β->Prop}(hE:Esc Er cs E W)(hc:cs[j]? =some C)(h:EV Er te σ W R m)(q:(m.bind fun _=>(Res.err j:Res β)).OkE Er P):ue E C (ak te aQ) D σ W.H:=
 h W (.refl _) _ ((CA q).imp fun a(ka:Er j)v W2 e2 hv=>⟨show 1<=sizeLine by decide,fun x hx=>by rw[<-hc];exact hE j ka x W2 e2 hx⟩)
structure CalR(P:CT)(w:D6)(K:CF)(mg:Str->Option CD)(base:Heap)(x:Str)(ps:List Str)(k:Nat)(sp:Sp):Prop where
 ex:∃(f:Addr)(fd:De),FnOk P w K mg base (CXR P w) k f fd ps sp/\mg x=some (.ref f)/\EE K (.ref f)=true/\Binds K fd ps []
theorem qm{X:Cx}{x:Str}{ps:List Str}{k:Nat}{sp:Sp}{E:XK}{p pos:Pos}{e:Expr}{es:List Expr}{t:TA}(C:CalR X.prog X.w X.K X.mg X.base x ps k sp)(hx:iy (CXR X.prog X.w) X E)(hr:Room k X.A)(hg:Gl X x)(ha:PA X (e::es) t)
  (hdb:(x==("__debug__" :Str))=false:=by decide) (he:starEach (e::es) X.env=(false,eval e X.env)::starEach es X.env:=by rfl) (hpl:(backTo pos<|starEach es X.env).any (·.1)=false:=by rfl):
  PE X (.Call (.Name x p) (e::es) [] pos) (aN sp [] E t):=by
 obtain⟨f,fd,F,hm,hk,hb⟩:=C.ex;exact pO F hr hg hm hk hb .nil hx ha hdb he hpl
structure CalH(P:CT)(w:D6)(K:CF)(mg:Str->Option CD)(base:Heap)(x:Str)(ps:List Str)(k:Nat)(sp:Addr->Addr->Sp):Prop where
 ex:∃(f:Addr)(fd:De),FnOkH P w K mg base k f fd ps sp/\mg x=some (.ref f)/\EE K (.ref f)=true/\Binds K fd ps []
theorem wy{X:Cx}{xn:Str}{ps:List Str}{k:Nat}{sp:Addr->Addr->Sp}{x C:Addr}{od:Option Addr}{oe:Obj}{p pos:Pos}{e:Expr}{es:List Expr}{t:TA}(F:CalH X.prog X.w X.K X.mg X.base xn ps k sp)(hh:Held oe C od)(hr:RoomH k X.A)(hA:X.A.handled=some (.ref x))(hp:(x,oe)∈X.pn)(hg:Gl X xn)(ha:PA X (e::es) t)
  (hdb:(xn==("__debug__" :Str))=false:=by decide) (he:starEach (e::es) X.env=(false,eval e X.env)::starEach es X.env:=by rfl) (hpl:(backTo pos<|starEach es X.env).any (·.1)=false:=by rfl):
  PE X (.Call (.Name xn p) (e::es) [] pos) (aN (zF od<|sp x C) [] E0 t):=by
 obtain⟨f,fd,F,hm,hk,hb⟩:=F.ex;exact uk F hr hA hh hp hg hm hk hb ha hdb he hpl
def gz(K:CF)(cs:List Addr)(aB:Addr)(x C:Addr):Sp:=fun vs H Q _=>∃(W:Wd)(j:Nat),W.H=H/\vs=[.ref x]/\XK1 K C/\j<13/\(∀i a,cs[i]? =some a->DR K (.ref C) (.ref a)=some (decide<|i=j))/\DR K (.ref C) (.ref aB)=some true/\DR K (.ref C) (.type "ValueError")=some true/\∀p W',Ext W W'->W.H p=none->Ow isS W' p [kindN.getD j []]->Q (.ref p) W'.H
structure Kin(K:CF)(base:Heap)(cs:List Addr)(aB:Addr):Prop where
 len:cs.length=13
 top:∃bm,Xcl base aB bm
 one:∀(j:Nat)(C:Addr),cs[j]? =some C->XK1 K C/\(∀(i:Nat)(a:Addr),cs[i]? =some a->DR K (.ref C) (.ref a)=some (decide<|i=j))/\DR K (.ref C) (.ref aB)=some true/\DR K (.ref C) (.type "ValueError")=some true/\∃bm,Xcl base C bm/\(D8 C::bm).contains (.ref aB)=true
def EX(K:CF)(cs:List Addr)(s:Tx)(W0:Wd)(Q:VK):XK:=fun v C H'=>(∃x,v=.ref x)/\∃(j:Nat)(W':Wd),C=cs[j]? /\W'.H=H'/\Ext W0 W'/\rs (isU K) W0 (oP s j) Q
section
variable{K:CF}{base:Heap}{cs:List Addr}{aB:Addr}{W0 W:Wd}{Q:VK}{s:Tx}{ie:Nat}{σ:St}{D:Ends}
theorem EX.cl(Z:Kin K base cs aB):∀v C H,EX K cs s W0 Q v (some C) H->∃bmC,Xcl base C bmC/\(D8 C::bmC).contains (.ref aB)=true:=fun v C H⟨_,j,W',h,_⟩=>(Z.one j C h.symm).2.2.2.2
theorem ur(Z:Kin K base cs aB){x C:Addr}{od:Option Addr}{H':Hp}{σ':St}{xs:Str}(hs:xs=sOf s)(hD:D.rt=Q)(h:EX K cs s W0 Q (XV x od) (some C) H')(hi:ie<σ'.length):
  bZ (cf<|ak (tC<|.str xs)<|ak (aN (zF od<|gz K cs aB x C) [] E0<|ak (bL ie) aQ) aQ) D (σ'.set ie<|some<|.ref x) H':=by
 obtain⟨⟨x',hx'⟩,j,W',hj,rfl,e,q⟩:=h;have ho:od=none:=by cases od with|none=>rfl|some d=>cases hx'
 obtain⟨z1,z2,z3,z4,_⟩:=Z.one j C hj.symm;have hj':j<13:=by rw[<-Z.len];exact(CL.mp hj.symm).1
 have hk:EVo (fun _=>False) (aN (zF od<|gz K cs aB x C) [] E0<|ak (bL ie) aQ) (σ'.set ie<|some<|.ref x) W' isS (.ok [kindN.getD j []]):=fun W1 e1 Q1 k=>
  ⟨.ref x,by rw[FR hi],(fun d z=>by rw[ho]at z;cases z),W1,j,rfl,rfl,z1,hj',z2,z3,z4,fun p W2 e2 hp o=>k p W2 e2 hp o⟩
 refine aO (R:=sh<|isU K) (m:=.ok<|oP s j) (oO (K:=K) (u9 lu<|xT lu)<|bz (K:=K) (aE (x:=xs) (l:=s) hs)<|Ey hk)<|fun v W2 e2 hv=>?_;rw[hD];exact q v W2 (e.trans e2) hv
end
section
variable{α β γ δ:Type}{K:CF}{base:Heap}{cs:List Addr}{aB:Addr}{W0 W:Wd}{Q:VK}{s:Tx}{ie i:Nat}{σ:St}{D:Ends}{t1 t2 t3:TE}{R1:Rp α}{R2:Rp γ}{R3:Rp δ}{R:Rp β}[Mono R1][Mono R2][Mono R3]{m1:Res α}{m2:Res γ}{m3:Res δ}{rest:TS}{σ':V->St}{xs:Str}
abbrev yR(K:CF)(cs:List Addr)(aB:Addr)(ie:Nat)(xs:Str):Addr->Addr->Option Addr->Obj->TS:=fun x C od _=>bZ<|cf<|ak (tC<|.str xs)<|ak (aN (zF od<|gz K cs aB x C) [] E0<|ak (bL ie) aQ) aQ
def BD(K:CF)(W0 W:Wd)(Q:VK)(s:Tx)(R:Rp β)(D:Ends)(rest:TS)(σ':V->St):β ⊕ Nat->Prop
 | .inl y=>∀v W',Ext W W'->R W'.G y v->rest D (σ' v) W'.H
 | .inr j=>rs (isU K) W0 (oP s j) Q
theorem wz{Er:Nat->Prop}{te:TE}{m:Res β}(e0:Ext W0 W)(Z:Kin K base cs aB)(hs:xs=sOf s)(hD:D.rt=Q)(h:∀Er',Esc Er' cs (EX K cs s W0 Q) W->EV Er' te σ W (sh R) m)
  (q:(Res.tryR m).OkE Er (BD K W0 W Q s R D rest σ')) (hi:ie<σ.length:=by first|decide|simp) (hσ:∀v,σ.set i (some v)=σ' v:=by intro _;rfl):
  fk (An (EX K cs s W0 Q) ie (bP te<|aV i)<|yR K cs aB ie xs) rest D σ W.H:=by
 refine⟨h (fun j=>rs (isU K) W0 (oP s j) Q) (fun j hj x W' e hx=>⟨⟨x,rfl⟩,j,W',rfl,rfl,e0.trans e,hj⟩) W (.refl _) _<|(Res.tryR_OkE q).imp fun y ky v W' e hr=>?_,fun x C od oe σ1 H1 hE hx hh hl=>ur Z hs hD hE (by rw[hl];exact hi)⟩;have:=ky v W' e hr;rw[<-hσ]at this;exact this
end
end Wb
namespace Wb
open PySem L2 Mi
open PySem.W (findIn findObj mroIn kitOne kitCls clsIn typeIn subIn specialIn takesIn Frag)
def vE:List CD:=[.type "ValueError",.type "Exception",.type "BaseException",.type "object"]
def XcK(K:Frag)(C N:Addr)(bm:List CD):Prop:=∃nm q bs hdct sn sub ab col dd k0 k1 k2 k3 k5,K.lookup C=some (excClassObj nm q C N bs bm hdct sn sub ab col dd k0 k1 k2 k3 k5 "ValueError.__new__")
structure Cx1(K:Frag)(aB C:Addr):Prop where
 at_:∃N,XcK K C N (.ref aB::vE)
 ga:findIn K (.ref C) "__getattribute__"=some (some<|.builtin "BaseException.__getattribute__")
 gt:findIn K (.ref C) "__getattr__"=some none
 cl:findIn K (.ref C) "__class__"=some (some<|.builtin "object.__class__")
section
variable{K:Frag}{base:Heap}{C D N:Addr}{bm bm':List CD}
theorem XcK.cls(x:XcK K C N bm):∃cd,clsIn K C=some cd/\cd.mro=.ref C::bm/\typeIn K (.ref C)=some (.type "type"):=by
 obtain⟨nm,q,bs,hdct,sn,sub,ab,col,dd,k0,k1,k2,k3,k5,e⟩:=x;refine⟨{name:=nm,bases:=bs,mro:=.ref C::bm,ns:=N,qualname:=q,hasDict:=hdct,slotNames:=sn,subclasses:=sub,abstract:=ab,collection:=col,hasDel:=false},?_,rfl,?_⟩;·unfold clsIn;rw[e]
 ·show MU (fun x=>x.cls) (List.lookup C K)=_;rw[e];rfl
theorem XcK.xcl(x:XcK K C N bm)(X:K.In base)(hb:bm.contains (.type "BaseException")=true):Xcl base C bm:=by
 obtain⟨nm,q,bs,hdct,sn,sub,ab,col,dd,k0,k1,k2,k3,k5,e⟩:=x;exact⟨nm,q,N,bs,hdct,sn,sub,ab,col,dd,k0,k1,k2,k3,k5,_,X _ _ e,hb⟩
theorem XcK.mro(x:XcK K C N bm)(v:CD):mroIn K C v=some ((D8 C::bm).contains v):=by
 obtain⟨cd,h1,h2,_⟩:=x.cls;unfold mroIn;rw[h1,IA,h2];rfl
theorem XcK.kit{N':Addr}(x:XcK K C N bm)(y:XcK K D N' bm'):kitOne K (.ref C) (.ref D)=some ((D8 C::bm).contains (.ref D)):=by
 obtain⟨cd,h1,h2,h3⟩:=y.cls;unfold kitOne;by_cases e:(D8 C==D8 D)=true
 ·rw[if_pos e];rw[beq_iff_eq.mp e,K1];simp
 ·rw[if_neg e];show(if((clsIn K D).isSome&&typeIn K (.ref D)==some (.type "type"))=true then subIn K (.ref C) (.ref D)else none)=_;rw[h1,h3,if_pos (by simp)];exact x.mro _
theorem XcK.kitT{T:String}(x:XcK K C N bm)(hT:L5 T=true):kitOne K (.ref C) (.type T)=some ((D8 C::bm).contains (.type T)):=by
 unfold kitOne;rw[if_neg (by intro z;cases beq_iff_eq.mp z)];show(if L5 T=true then subIn K (.ref C) (.type T)else none)=_;rw[if_pos hT];exact x.mro _
end
theorem Cx1.xk{K:Frag}{aB C:Addr}(x:Cx1 K aB C)(hn:specialIn K (.builtin "object.__class__") "__get__"=some (some<|.builtin "getset_descriptor.__get__"))(ht:takesIn K (.builtin "object.__class__")=some true):XK1 K C:=by
 obtain⟨N,h⟩:=x.at_;refine⟨x.ga,x.gt,?_,?_,?_⟩
 ·intro od;obtain⟨cd,h1,h2,h3⟩:=h.cls;unfold findObj;rw[h1,IA,x.cl,IA];simp[hn,ht]
 ·rw[h.mro];simp[vE]
 ·rw[h.mro];simp[vE]
theorem lA{α:Type}:∀{l:List α},l.Nodup->∀{i j:Nat}{x:α},l[i]? =some x->l[j]? =some x->i=j
 | [],_,i,j,x,a,_=>by simp at a
 |y::r,nd,0,0,x,a,b=>rfl
 |y::r,nd,0,j+1,x,a,b=>by
  simp at a b;subst a;exact absurd (Dh b) (Ea.mp nd).1
 |y::r,nd,i+1,0,x,a,b=>by
  simp at a b;subst b;exact absurd (Dh a) (Ea.mp nd).1
 |y::r,nd,i+1,j+1,x,a,b=>by
  simp at a b;rw[lA (Ea.mp nd).2 a b]
theorem Kin.of{K:Frag}{base:Heap}{cs:List Addr}{aB NB:Addr}(X:K.In base)(hn:specialIn K (.builtin "object.__class__") "__get__"=some (some<|.builtin "getset_descriptor.__get__"))(ht:takesIn K (.builtin "object.__class__")=some true)
  (len:cs.length=13) (nd:(aB::cs).Nodup) (top:XcK K aB NB vE) (all:∀C∈cs,Cx1 K aB C):Kin K base cs aB:=by
 have one:∀(j:Nat)(C:Addr),cs[j]? =some C->C∈cs:=fun j C h=>Dh h;refine⟨len,⟨vE,top.xcl X (by decide)⟩,fun j C h=>?_⟩;have hC:=all C<|one j C h;obtain⟨N,hx⟩:=hC.at_;refine⟨hC.xk hn ht,fun i a hi=>?_,?_,?_,.ref aB::vE,hx.xcl X (by simp[vE]),by simp⟩
 ·have ha:=all a<|one i a hi;obtain⟨N',hy⟩:=ha.at_;rw[hx.kit hy];have nB:a≠aB:=fun z=>(Ea.mp nd).1 (z▸one i a hi);have nd':=(Ea.mp nd).2;have key:(a=C)↔i=j:=by
   constructor
   ·intro z;subst z;obtain⟨l1,e1⟩:=CL.mp hi;obtain⟨l2,e2⟩:=CL.mp h;exact lA nd' hi h
   ·intro z;subst z;rw[hi]at h;exact Dp h
  by_cases z:i=j
  ·have:=key.mpr z;subst this;simp[z]
  ·have:¬a=C:=fun y=>z<|key.mp y;simp[z,this,nB,vE]
 ·rw[hx.kit top];simp
 ·rw[hx.kitT (by decide +kernel)];simp[vE]
theorem Ecl.of{K:Frag}{base:Heap}{aB C N NB:Addr}{o oB:Obj}{es eB:Array EZ}{ep pB:Nat}(X:K.In base)(h:XcK K C N (.ref aB::vE))(hB:XcK K aB NB vE)(n:K.lookup N=some o)(d:o.data=.dict es ep)(k:Lc es)(i:nsFind es "__init__"=none)
  (nB:K.lookup NB=some oB) (dB:oB.data=.dict eB pB) (kB:Lc eB) (iB:nsFind eB "__init__"=none):Ecl base C:=by
 obtain⟨nm,q,bs,hdct,sn,sub,ab,col,dd,k0,k1,k2,k3,k5,e⟩:=h;obtain⟨nm',q',bs',hdct',sn',sub',ab',col',dd',k0',k1',k2',k3',k5',e'⟩:=hB;exact⟨nm,q,N,bs,.ref aB::vE,hdct,sn,sub,ab,col,dd,k0,k1,k2,k3,k5,_,fun x=>nsFind es x,"ValueError",_,vE,X _ _ e,⟨o,es,ep,X _ _ n,d,k,fun _=>rfl⟩,i,.own (X _ _ e') ⟨oB,eB,pB,X _ _ nB,dB,kB,fun _=>rfl⟩ iB .base,PySem.F.excBase_ValueError⟩
def uu:CD->Bool
 | .str _ _=>true
 |_=>false
theorem strKeys_of{es:Array EZ}(h:(es.toList.all fun e=>uu e.key)=true):Lc es:=fun e he=>by
 have:=Gf.mp h e<|Jo.mpr he;unfold uu at this;split at this;·rename_i n t q;exact⟨n,t,q⟩
 ·cases this
end Wb
namespace Wb
open PySem L2 Mi
end Wb
namespace L2
open PySem PySem.Spec PyProof.Rows
abbrev TJ:=Str->St->Hp->(Str->Hp->Prop)->Prop
def PJ(X:Cx)(es:List Expr)(t:TJ):Prop:=∀(acc:Str)(pins:List (Addr×Obj))(s:CH)(σ:St)(H:Hp)(Q:Str->Hp->Prop),Inv X pins σ H s->t acc σ H Q->
 Joins (model X.prog X.w) X.A X.xe (evalEach es X.env) acc (fun out s1=>∃H1,Inv X pins σ H1 s1/\Q out H1) s
def Ap:TJ:=fun acc _ H Q=>Q acc H
def Aq(x:Str)(t:TJ):TJ:=fun acc σ H Q=>(acc++x).length<=sizeLine/\t (acc++x) σ H Q
def Ar(te:TE)(t:TJ):TJ:=fun acc σ H Q=>te σ H fun v H1=>∃y:Str,((v=.str y/\y.length<=sizeLine)\/∃i:Int,v=.int i/\i.natAbs.log2<1920/\y=CI (toString i))/\(acc++y).length<=sizeLine/\t (acc++y) σ H1 Q
def xU(t:TJ):TE:=fun σ H Q=>t M6 σ H fun out H1=>out.length<=sizeLine/\Q (.str out) H1
section
variable{X:Cx}{e:Expr}{es:List Expr}{te:TE}{t:TJ}{pos:Pos}
theorem yS:PJ X [] Ap:=fun acc pins s σ H Q I h=>⟨H,I,h⟩
theorem yT{x:Str}{k}(ht:PJ X es t):PJ X (.Constant (.str x) k pos::es) (Aq x t):=fun acc pins s σ H Q I h=>by
 have:=(aD (X:=X) (pos:=pos) (j:=k) (x:=x)) pins s σ H (fun v H1=>v=.str x/\H1=H) I ⟨rfl,rfl⟩;refine bF this fun v s1 zz=>?_;obtain⟨u,H1,I1,r,e1,e2⟩:=zz;rw[e1]at r;rw[e2]at I1;obtain⟨tk,rfl⟩:=r;exact⟨x,_,rfl,h.1,ht _ pins s1 σ H Q I1 h.2⟩
theorem yU(he:PE X e te)(ht:PJ X es t):PJ X (.FormattedValue e (-1) none pos::es) (Ar te t):=fun acc pins s σ H Q I h=>by
 show wpAny _ _ (eval (.FormattedValue e (-1) none pos) X.env) _ _ _;refine wpAny_FormattedValue_plain<|bF (he pins s σ H _ I h) fun v s1 zz=>?_;obtain⟨u,H1,I1,r,y,hy,hl,q⟩:=zz;rcases hy with⟨rfl,hz⟩|⟨i,rfl,hz,rfl⟩
 ·obtain⟨tk,rfl⟩:=r;refine wpAny_formatField_str ?_ ?_ hz;·exact⟨y,_,rfl,hl,ht _ pins _ σ H1 Q I1 q⟩
  ·exact⟨y,_,rfl,hl,ht _ pins _ σ H1 Q (I1.tok _) q⟩
 ·obtain⟨tk,rfl⟩:=r;refine wpAny_formatField_int hz ?_;exact⟨_,_,rfl,hl,ht _ pins _ σ H1 Q (I1.tok _) q⟩
theorem rM{e1 e2:Expr}(ht:PJ X (e1::e2::es) t):PE X (.JoinedStr (e1::e2::es) pos) (xU t):=fun pins s σ H Q I h=>by
 refine wpAny_JoinedStr ?_;have mono:∀(es:List (Sem CD))(acc:Str)(P P':Str->CH->Prop)(s:CH),(∀o s,P o s->P' o s)->Joins (model X.prog X.w) X.A X.xe es acc P s->Joins (model X.prog X.w) X.A X.xe es acc P' s:=by
  intro es
  induction es with
  |nil=>intro acc P P' s k h;exact k _ _ h
  |cons a r ih=>intro acc P P' s k h;exact bF h fun v s1⟨y,t,e,l,q⟩=>⟨y,t,e,l,ih _ _ _ _ k q⟩
 refine mono _ _ _ _ _ (fun o s1⟨H1,I1,hz,q⟩=>⟨hz,.str o,H1,I1.tok _,⟨_,rfl⟩,q⟩)<|ht M6 pins s σ H _ I h
end
end L2
namespace Wb
open PySem L2 Mi
theorem wA(i:Int):CI (toString i)=sOf (uc i):=by rw[Str.ofString_eq_toList];rfl
def JV(Er:Nat->Prop)(t:TJ)(σ:St)(W:Wd)(f:Tx->Res Tx):Prop:=∀W1,Ext W W1->∀(acc:Tx)(Q:Str->Hp->Prop),(f acc).OkE Er (fun out=>∀W2,Ext W1 W2->Q (sOf out) W2.H)->t (sOf acc) σ W1.H Q
section
variable{Er:Nat->Prop}{te:TE}{t:TJ}{σ:St}{W:Wd}{f:Tx->Res Tx}
theorem yV:JV Er Ap σ W fun acc=>.ok acc:=fun W1 _ acc Q k=>k W1<|.refl _
theorem yW{x:Str}{l:Tx}(hx:x=sOf l)(h:JV Er t σ W f):JV Er (Aq x t) σ W fun acc=>(fB acc l).bind f:=fun W1 e1 acc Q k=>by
 obtain⟨h1,h2⟩:=aW<|CA k;subst hx;refine⟨?_,?_⟩<;>rw[fv];·rw[cu,DZ];exact lY h1
 ·exact h W1 e1 _ Q h2
theorem wB{m:Res Int}(he:EV Er te σ W (sh isI) m)(h:JV Er t σ W f):JV Er (Ar te t) σ W fun acc=>m.bind fun i=>(yM i).bind fun y=>(fB acc y).bind f:=fun W1 e1 acc Q k=>
 he W1 e1 _ ((CA k).imp fun i ki v W2 e2 hv=>by
  cases hv;obtain⟨h0,ky⟩:=aW<|CA ki;obtain⟨h1,h2⟩:=aW<|CA ky;refine⟨CI<|toString i,.inr ⟨i,rfl,h0,rfl⟩,?_,?_⟩<;>rw[wA,fv];·rw[cu,DZ];exact lY h1
  ·exact h W2 (e1.trans e2) _ Q (h2.imp fun out ko W3 e3=>ko W3 (e2.trans e3)))
theorem rN(h:JV Er t σ W f):EV Er (xU t) σ W (sh isS) ((f []).bind yN):=fun W1 e1 Q k=>
 h W1 e1 [] _ ((CA k).imp fun out ko W2 e2=>by
  obtain⟨h1,h2⟩:=aW ko;exact⟨by rw[cu];exact lY h1,h2 _ W2 e2 rfl⟩)
end
end Wb
namespace Mi
def gd{S:Type}(c:S->Res Bool)(f:S->Res S):Nat->S->Res S
 |0,_=>.stuck
 |n+1,s=>(c s).bind fun b=>if b then(f s).bind fun s'=>gd c f n s' else .ok s
end Mi
namespace Wb
open PySem L2 Mi
section
variable{Er:Nat->Prop}{K:CF}{W0 W W':Wd}{p:Addr}{s:List Fr}{te:TE}{σ:St}{D:Ends}{i a b:Nat}{r:TS}{E:XK}
theorem uv{S:Type}{tc:TT}{tb:TS}{c:S->Res Bool}{f:S->Res S}{s0:S}{P:S->Prop}{n:Nat}(Iv:S->Wd->St->Prop)(q:(gd c f n s0).OkE Er P)(h0:Iv s0 W σ)
  (hm:∀W1 W2 s σ1,Ext W1 W2->Iv s W1 σ1->Iv s W2 σ1)
  (hc:∀W1 s σ1,Same W.G W1.G->Iv s W1 σ1->TV Er tc σ1 W1 (c s))
  (hs:∀Wb W1 s σ1 P',Same W.G W1.G->Same Wb.G W1.G->Iv s W1 σ1->(f s).OkE Er P'->tb {D with nx:=oi Wb Iv P',ct:=oi Wb Iv P',bk:=D.nx} σ1 W1.H)
  (hd:∀s W1 σ1,Same W.G W1.G->Iv s W1 σ1->P s->D.nx σ1 W1.H):ou tc tb D σ W.H:=by
 refine⟨fun m σ' H'=>∃s' W',W'.H=H'/\Same W.G W'.G/\Iv s' W' σ'/\(gd c f m s').OkE Er P,⟨n,s0,W,rfl,.refl _,h0,q⟩,?_⟩;rintro m σ1 H1 ⟨s,W1,rfl,e1,iv,k⟩;cases m with
 |zero=>exact k.elim
 |succ m=>
  refine hc W1 s σ1 e1 iv W1 (.refl _) _<|(CA k).imp fun b kb W2 e2=>?_;cases b with
  |true=>
   refine⟨oi W Iv fun s'=>(gd c f m s').OkE Er P,fun σ' H'⟨s',W',z1,z2,z3,z4⟩=>⟨m,EK _,s',W',z1,z2,z3,z4⟩,?_⟩;exact hs W W2 s σ1 _ (e1.trans e2.g) (e1.trans e2.g) (hm W1 W2 s σ1 e2 iv)<|CA kb
  |false=>exact hd s W2 σ1 (e1.trans e2.g) (hm W1 W2 s σ1 e2 iv) kb
section
variable{r:TS}
theorem oU{S:Type}{tc:TT}{tb:TS}{c:S->Res Bool}{f:S->Res S}{s0:S}{P:S->Prop}{n:Nat}(Iv:S->Wd->St->Prop)(q:(gd c f n s0).OkE Er P)(h0:Iv s0 W σ)
  (hm:∀W1 W2 s σ1,Ext W1 W2->Iv s W1 σ1->Iv s W2 σ1)
  (hc:∀W1 s σ1,Same W.G W1.G->Iv s W1 σ1->TV Er tc σ1 W1 (c s))
  (hs:∀Wb W1 s σ1 P',Same W.G W1.G->Same Wb.G W1.G->Iv s W1 σ1->(f s).OkE Er P'->tb {D with nx:=oi Wb Iv P',ct:=oi Wb Iv P',bk:=r D} σ1 W1.H)
  (hd:∀s W1 σ1,Same W.G W1.G->Iv s W1 σ1->P s->r D σ1 W1.H):fk (ou tc tb) r D σ W.H:=uv (D:={D with nx:=r D}) Iv q h0 hm hc hs hd
end
end
end Wb
namespace L2
open PySem PySem.Spec PyProof.Rows
end L2
namespace Wb
open PySem L2 Mi
section
variable{Er:Nat->Prop}{α β:Type}{K:CF}{W W0:Wd}{p:Addr}{ta tb te:TE}{σ:St}{D:Ends}{i:Nat}{r:TS}{base:Heap}
theorem LR.rev{R:Rp α}{H:Hp}{as:List α}{vs:List V}(h:LR R H as vs):LR R H as.reverse vs.reverse:=⟨by simp[h.1],fun i v m q1 q2=>by
 have hi:i<vs.length:=by have:=(CL.mp q1).1;simpa using this
 rw[Fs hi]at q1;rw[Fs (by rw[<-h.1];exact hi),<-h.1]at q2;exact h.2 _ v m q1 q2⟩
theorem wC{R:Rp α}[Mono R]{ma:Res (List α)}(ha:EV Er ta σ W (pk R) ma):EVo Er (tE K ta<|bu<|ft (rU fun i=>.int<|-i)<|tC<|.int 1) σ W R (ma.bind fun a=>.ok a.reverse):=fun W1 e1 Q k=>
 ha W1 e1 _ ((CA k).imp fun a ka x W2 e2 hx=>by
  obtain⟨p,vs,rfl,h1,h2⟩:=hx;refine⟨1,rfl, -1,rfl,p,vs,rfl,rfl,Fe h1,fun q hq=>ka q (W2.mut q (.lst vs.reverse) (W2.gnone hq)) (e2.trans (.own _ hq)) (bg e2.h hq) ⟨W2.gnone hq,_,aG,LR.rev h2⟩⟩)
end
end Wb
namespace L2
open PySem PySem.Spec PySem.Calls PyProof.Rows Mi
end L2
namespace Wb
open PySem L2 Mi
end Wb
namespace L2
open PySem PySem.Spec PyProof.Rows
theorem As{X:Cx}:iy (CXR X.prog X.w) X E0:=fun _ _ _ _ _ _ _⟨_,_,_,_,_,_,_,_,_,_,q⟩=>q.elim
end L2
namespace Wb
open PySem L2 Mi
theorem BE{Er:Nat->Prop}{cs:List Addr}{E:XK}{W:Wd}(n:∀j,¬Er j):Esc Er cs E W:=fun j h=>(n j h).elim
def Au{α β:Type}(R1:Rp α)(rt:Rt β)(m:α->Res β):Sp:=fun vs H Q _=>∃(W:Wd)(a:α)(v:V),W.H=H/\vs=[v]/\R1 W.G a v/\∃Er:Nat->Prop,(∀j,¬Er j)/\(m a).OkE Er fun r=>rt W r Q
end Wb
namespace L2
open PySem PySem.Spec PyProof.Rows
end L2
namespace Wb
open PySem L2 Mi
end Wb
namespace Mi
end Mi
namespace Wb
open PySem L2 Mi
end Wb
namespace L2
open PySem PySem.Spec PyProof.Rows
noncomputable def dG(tg iter:Expr)(ifs:List Expr)(body:Sem Unit)(it:CD)(env:Env)(c:Code):Sem Fin:=do
 standAt iter.pos
 match <-pyNext it with
 |none=>pure<|.done .next
 |some v=>
  letOwnedTupleGo tg it v
  assign tg env v
  let mut ok:=true
  for c in ifs do
   if ok then ok <-isTrue c env (eval c env)
  if ok then body
  again c
structure CompE(e:Expr):Prop where
 a:∀(A:Dr)(d:Nat)(it acc:CD)(env:Env),A.under (.compLoop e d it acc env)=A
 b:∀(A:Dr)(d:Nat)(it acc:CD)(env:Env),A.under (.compStart e d it acc env)=A
 c:∀(prog:CT)(w:D6)(d:Nat)(it acc:CD)(env:Env),(model prog w).den (.compLoop e d it acc env)=(compTurn e d it acc env).onRaise (fun x=>do noteFrame x env;theTreesLotGoes x)
 d:∀(prog:CT)(w:D6)(d:Nat)(it acc:CD)(env:Env),(model prog w).den (.compStart e d it acc env)=(compStart e d it acc env).onRaise (fun x=>do noteFrame x env;standAt theWindowsPlace)
theorem CompE.dict{k v:Expr}{gs:List Ik}{sc:Fm}{pos:Pos}:CompE (.DictComp k v gs sc pos):=⟨fun _ _ _ _ _=>rfl,fun _ _ _ _ _=>rfl,fun _ _ _ _ _ _=>rfl,fun _ _ _ _ _ _=>rfl⟩
theorem CompE.set{k:Expr}{gs:List Ik}{sc:Fm}{pos:Pos}:CompE (.SetComp k gs sc pos):=⟨fun _ _ _ _ _=>rfl,fun _ _ _ _ _=>rfl,fun _ _ _ _ _ _=>rfl,fun _ _ _ _ _ _=>rfl⟩
section
variable{prog:CT}{w:D6}{A:Dr}{R:KA->CH->Prop}{s:CH}
theorem kW{e:Expr}(ce:CompE e){d:Nat}{tg iter:Expr}{ifs:List Expr}{it acc:CD}{env:Env}{body:Sem Unit}(ht:compTurn e d it acc env=dG tg iter ifs body it env (.compLoop e d it acc env))(I:Nat->CH->Prop)
  (turn:∀n s,I n s->wpAny (model prog w) A (pyNext it) (fun r s₁=>match r with
   |none=>R (.ok .next) s₁
   | some v=>wpAny (model prog w) A (letOwnedTupleGo tg it v) (fun _ s₁'=>wpAny (model prog w) A (assign tg env v) (fun _ s₂=>
     wpAny (model prog w) A (forIn ifs true fun c r=>if r=true then do let ok <-isTrue c env (eval c env);pure (Fh ok)else pure (Fh r)) (fun ok s₃=>
      if ok=true then wpAny (model prog w) A body (fun _ s₅=>∃m,m<n/\I m s₅) (fun _ _=>False) s₃
      else ∃m,m<n/\I m s₃) (fun _ _=>False) s₂) (fun _ _=>False) s₁') (fun _ _=>False) s₁) (fun _ _=>False) s)
  (n:Nat) (h:I n s):codeAny (model prog w) A (.compLoop e d it acc env) R s:=by
 refine codeAny_loop rfl I (fun n s hI=>?_) n h;rw[ce.a,ce.c];refine wpAny_noted ?_;rw[ht];unfold dG;refine Cy<|F4<|Cy<|DW (turn n s hI) (fun r s₁ h₁=>?_) fun _ _ h'=>h'.elim;cases r with
 |none=>exact CG h₁
 |some v=>
  refine Cy<|DW h₁ (fun _ s₁' h₁'=>?_) fun _ _ h'=>h'.elim;refine Cy<|DW h₁' (fun _ s₂ h₂=>Cy<|DW h₂ (fun ok s₃ h₃=>?_) fun _ _ h'=>h'.elim) fun _ _ h'=>h'.elim;cases ok with
  |true=>
   rw[if_pos rfl]at h₃;exact Cy<|DW h₃ (fun _ s₄ h₄=>CG ⟨rfl,h₄⟩) fun _ _ h'=>h'.elim
  |false=>
   rw[if_neg CS]at h₃;exact CG ⟨rfl,h₃⟩
theorem gG{e:Expr}(ce:CompE e){d:Nat}{g:Ik}{it acc:CD}{env:Env}(hg:(clausesOf e)[d]? =some g)(ha:g.is_async=0)
  (h0:codeAny (model prog w) A (.compLoop e d it acc env) R s)
  (h:wpAny (model prog w) A (pyIter it) (fun it' s'=>codeAny (model prog w) A (.compLoop e d it' acc env) R s') (notedBy (model prog w) A env fun x s'=>R (.error x) s') s):
  codeAny (model prog w) A (.compStart e d it acc env) R s:=by
 refine codeAny_of_tree ?_;rw[ce.b,ce.d];refine wpAny_notedAt ?_;unfold compStart;rw[hg];simp only[Option.elim_some,ha,bne_self_eq_false,Dm,if_false];refine Cy<|FN<|wpAny_ite ?_;split
 ·first
   |exact Cy<|CG<|CG<|KH rfl h0
   |exact CG<|KH rfl h0
 ·first
   |exact Cy<|FV<|Cy<|F4<|Cy<|DW h (fun it' s' h'=>CG<|KH rfl h') fun _ _ x=>x
   |(refine Cy<|FV ?_;exact Cy<|F4<|Cy<|DW h (fun it' s' h'=>CG<|KH rfl h') fun _ _ x=>x)
end
noncomputable def xV(kx vx:Expr)(env:Env)(acc:CD):Sem Unit:=do
        let kv <-eval kx env
        let vv <-holding [kv] (eval vx env)
        match acc with
        | .ref d => do
          standAt {kx.pos with endLine:=vx.pos.endLine,endCol:=vx.pos.endCol}
          holding [kv,vv] (dictSet d kv vv)
        |_=>unsupported "internal:dictcomp"
noncomputable def wD(iter:Expr)(e:Expr)(d:Nat)(env:Env)(acc:CD):Sem Unit:=do
        let x <-eval iter env
        standAt iter.pos
        let x <-foldedSetIterable iter env x
        let _ <-runOwn (.compStart e d (<-holding [x] (pyIter x)) acc env) env
abbrev TB:=Addr->St->Hp->(Hp->Prop)->Prop
def PB(Y:Cx)(body:CD->Sem Unit)(tb:TB):Prop:=∀(D:Addr)(pins:List (Addr×Obj))(s:CH)(σ:St)(H:Hp)(N:Hp->Prop),Inv Y pins σ H s->tb D σ H N->
 wpAny (model Y.prog Y.w) Y.A (body<|.ref D) (fun _ s'=>∃σ' H',Inv Y pins σ' H' s'/\(∀(j:Nat)(v:V),σ[j]? =some (some v)->σ'[j]? =some (some v))/\N H') (fun _ _=>False) s
def rO(g:TG)(tf:TT)(tb:TB)(D:Addr)(σ:St)(H1:Hp)(N:Hp->Prop)(J:It):Prop:=∃W:Nat->Nat->Hp->Prop,(∃m,W 0 m H1)/\∀i m H,W i m H->
 ((J.stop i H/\N H)\/(J.go i H/\∃M:Hp->Prop,(∀H',M H'->∃m',m'<m/\W (i+1) m' H')/\∀x H',J.yld i H x H'->g x σ H' fun σ2 H2=>Keep σ σ2/\tf σ2 H2 fun b H3=>if b=true then tb D σ2 H3 M else M H3))
def yX(wi:TI)(g:TG)(tf:TT)(tb:TB):TB:=fun D σ H N=>wi σ H fun J H1=>rO g tf tb D σ H1 N J
section
variable{Y:Cx}{tg iter elt kx vx:Expr}{ifs:List Expr}{g:TG}{tf:TT}{tb:TB}{body:CD->Sem Unit}{te tk tv:TE}{wi:TI}
theorem nF(hc:Y.calm=true)(hxe:Y.xe=fun _ _=>False)(hg:PG Y tg g)(hf:pT Y ifs tf)(hb:PB Y body tb){e:Expr}(ce:CompE e){d:Nat}{it:Addr}{fp:List Addr}{tn:Nat->Heap->Prop}{J:It}(T:Turn Y.prog Y.w Y.K tg J fp it tn)
  {pins:List (Addr×Obj)} {s:CH} {σ:St} {H:Hp} {D:Addr} {N:Hp->Prop} {R:KA->CH->Prop} (I:Inv Y pins σ H s) (st:tn 0 s.heap) (f:∀b∈fp,FpOk Y pins H b) (w:rO g tf tb D σ H N J)
  (ht:compTurn e d (.ref it) (.ref D) Y.env=dG tg iter ifs (body<|.ref D) (.ref it) Y.env (.compLoop e d (.ref it) (.ref D) Y.env))
  (fin:∀σ' H' s',Inv Y pins σ' H' s'->(∀(j:Nat)(v:V),σ[j]? =some (some v)->σ'[j]? =some (some v))->N H'->R (.ok .next) s'):
  codeAny (model Y.prog Y.w) Y.A (.compLoop e d (.ref it) (.ref D) Y.env) R s:=by
 obtain⟨W,⟨m0,w0⟩,turn⟩:=w;have stat:∀{H':Hp},(∀b∈fp,H' b=none)->∀b∈fp,FpOk Y pins H' b:=fun hn b hb=>⟨hn b hb,(f b hb).2⟩
 refine kW ce ht (fun n s'=>∃i σ' H',Inv Y pins σ' H' s'/\tn i s'.heap/\(∀b∈fp,H' b=none)/\(∀(j:Nat)(v:V),σ[j]? =some (some v)->σ'[j]? =some (some v))/\W i n H') ?_ m0 ⟨0,σ,H,I,st,fun b hb=>(f b hb).1,fun _ _ e=>e,w0⟩;rintro n s3 ⟨i,σ3,H3,I3,st3,fr3,kp,w3⟩;rcases turn i n H3 w3 with⟨stop,qn⟩|⟨go,M,hM,step⟩
 ·refine bF (T.done Y rfl rfl rfl hc i pins s3 σ3 H3 _ I3 (stat fr3) st3 stop) fun r s4 zz=>?_;obtain⟨hr,I4⟩:=zz;subst hr;exact fin σ3 H3 s4 I4 kp qn
 ·have I3':Inv Y pins σ H3 s3:=I3.weak (by rw[I3.len,I.len]) kp;refine bF (T.item Y rfl rfl rfl hc i pins s3 σ H3 _ I3' (stat fr3) st3 go) fun r s4 zz=>?_;obtain⟨u,hr,h4⟩:=zz;subst hr;refine bF h4 fun _ s5 zz=>?_;obtain⟨x,H5,I5,r5,y5,st5,fr5⟩:=zz;have I5':=I5.pinned (stat fr5)<|T.obj _ _ st5;have hg':=hg _ s5 σ H5 x u _ I5' r5<|step x H5 y5;rw[hxe]at hg';refine bF hg' fun _ s6 zz=>?_;obtain⟨σ6,H6,I6,kp6,q6⟩:=zz;have hf':=hf _ s6 σ6 H6 _ I6 q6;rw[hxe]at hf';refine bF hf' fun ok s7 zz=>?_;obtain⟨H7,I7,q7⟩:=zz;have again:∀{s8:CH}{σ7:St}{H7:Hp},Inv Y (pins++gJ fp s5.heap) σ7 H7 s8->(∀(j:Nat)(v:V),σ6[j]? =some (some v)->σ7[j]? =some (some v))->M H7->∃m,m<n/\∃i σ' H',Inv Y pins σ' H' s8/\tn i s8.heap/\(∀b∈fp,H' b=none)/\(∀(j:Nat)(v:V),σ[j]? =some (some v)->σ'[j]? =some (some v))/\W i m H':=fun{s8 σ7 H7}I7 k7 n7=>by
   obtain⟨m',hm,w7⟩:=hM H7 n7;refine⟨m',hm,i+1,σ7,H7,I7.unpinned,T.keep _ _ _ st5 fun b hb o e=>(I7.pin (b,o)<|Dd _<|Dd _<|dt hb e).1,fun b hb=>?_,fun j v e=>k7 j v<|MC kp6 e,w7⟩;obtain⟨o,e,d⟩:=T.obj _ _ st5 b hb;exact(I7.pin (b,o)<|Dd _<|Dd _<|dt hb e).2.1
  cases ok with
  |false=>
   rw[if_neg CS]at q7 ⊢;exact again I7 (fun _ _ e=>e) q7
  |true=>
   rw[if_pos rfl]at q7 ⊢;refine bF (hb D _ s7 σ6 H7 _ I7 q7) fun _ s8 zz=>?_;obtain⟨σ8,H8,I8,k8,q8⟩:=zz;exact again I8 k8 q8
theorem yY(hc:Y.calm=true)(hxe:Y.xe=fun _ _=>False)(hi:PI Y tg iter wi)(hg:PG Y tg g)(hf:pT Y ifs tf){body:Env->CD->Sem Unit}(hb:PB Y (body Y.env) tb){e:Expr}(ce:CompE e){d:Nat}(hcl:(clausesOf e)[d]? =some ⟨tg,iter,ifs,0⟩)
  (ht:∀env it acc,compTurn e d it acc env=dG tg iter ifs (body env acc) it env (.compLoop e d it acc env):=by intro _ _ _;rfl) (hs:∀x,foldedSetIterable iter Y.env x=pure x:=by intro _;rfl):
  PB Y (wD iter e d Y.env) (yX wi g tf tb):=by
 intro D pins s σ H N I h;have hi':=hi pins s σ H _ I h;rw[hxe]at hi';refine Cy<|bF hi' fun v s1 h1=>Cy<|F4<|Cy<|HY (hs v)<|Cy<|DQ<|bF h1 fun itv s2 h2=>?_;obtain⟨it,fp,tn,J,H2,rfl,I2,T,st2,f2,w⟩:=h2;have lp:codeAny (model Y.prog Y.w) Y.A (.compLoop e d (.ref it) (.ref D) Y.env) (fun r s'=>match r with| .ok f=>(∃σ' H',Inv Y pins σ' H' s'/\(∀(j:Nat)(v:V),σ[j]? =some (some v)->σ'[j]? =some (some v))/\N H')| .error x=>cameBackBy (model Y.prog Y.w) Y.A Y.env (fun _ _=>False) x s') s2:=
  nF hc hxe hg hf hb ce T I2 st2 f2 w (ht _ _ _) fun σ' H' s' I' k' n'=>⟨σ',H',I',k',n'⟩
 refine Cy<|wpAny_runOwn<|gG ce hcl rfl ?_ ?_
 ·exact GG lp fun r s' h=>by
   cases r with
   |ok f=>exact CG h
   |error x=>exact h
 ·refine T.self _ 0 _ _ _ st2 (GG lp fun r s' h=>by
   cases r with
   |ok f=>exact CG h
   |error x=>exact h)
end
section
variable{X:Cx}{scope:Fm}{N:List Str}{cap:List (Option Nat)}{tg iter:Expr}{ifs:List Expr}{pos:Pos}{wi:TI}{g:TG}{tf:TT}{tb:TB}{body:Env->CD->Sem Unit}
theorem lB{pins:List (Addr×Obj)}{σ σ':St}{H2 H':Hp}{s2 s':CH}{fp:List Addr}{C:Addr}{h':Heap}(I2:Inv X pins σ H2 s2)(f2:∀b∈fp,FpOk X pins H2 b)
  (hC:s2.heap.objs.size<=C) (I':Inv (ao X scope N s2 H2 C fp) [] σ' H' s') (hs:D5 C s'.heap h'):Inv X pins σ H' {s' with heap:=h'}:=by
 have nC:H' C=none:=I'.free;have lt2:∀b o,s2.heap.get? b=some o->b≠C:=fun b o e=>D0<|CN (CP e) hC;have hk:∀b o,b≠C->s'.heap.get? b=some o->h'.get? b=some o:=fun b o hb e=>(hs.2 b hb).trans e;have B:Un (frs X.stack) fp H2 H' s2.heap s'.heap:=I'.base;have tr:∀b u,H' b=some u->b≠C:=fun b u e z=>by rw[z,nC]at e;cases e
 refine I2.call' (ch:=fp) I'.os ⟨fun b o e n hb hx=>?_,fun b o e n hb hx=>?_,fun b o e n hx=>?_,fun b o e hx=>?_,fun b xs e=>?_,fun b o u e=>?_,fun b ps e=>?_⟩ (fun b u e=>?_) I'.bare fun b hb=>⟨(f2 b hb).2.2.2.1,(f2 b hb).2.1,(f2 b hb).2.2.2.2.1,(f2 b hb).2.2.2.2.2⟩
 ·exact hk b o (lt2 b o e)<|B.keep b o e n hb hx
 ·obtain⟨sl,q⟩:=B.slot b o e n hb hx;exact⟨sl,hk b _ (lt2 b o e) q⟩
 ·exact B.free b o e n hx
 ·obtain⟨o',q⟩:=B.there b o e hx;exact⟨o',hk b _ (lt2 b o e) q⟩
 ·exact B.tups b xs e
 ·exact B.frzs b o u e
 ·exact B.tbls b ps e
 ·refine(I'.hok b u e).stay (fun c w' hc q=>hk c w' ?_ q) (fun c q=>q) fun c xs q=>q;rcases hc with z|z
  ·rw[z];exact tr b u e
  ·exact tr c _ z
theorem jP(S:CompScope X scope N cap)(hc:X.calm=true){e:Expr}(ce:CompE e)(hcl:(clausesOf e)[0]? =some ⟨tg,iter,ifs,0⟩)
    (hg:∀s H C fp,PG (ao X scope N s H C fp) tg g) (hf:∀s H C fp,pT (ao X scope N s H C fp) ifs tf) (hb:∀s H C fp,PB (ao X scope N s H C fp) (body (ao X scope N s H C fp).env) tb)
    (ht:∀env it acc,compTurn e 0 it acc env=dG tg iter ifs (body env acc) it env (.compLoop e 0 it acc env))
    {pins:List (Addr×Obj)} {σ:St} {H3:Hp} {s3:CH} {it D:Addr} {fp:List Addr} {tn:Nat->Heap->Prop} {J:It} {Qv:Hp->Prop} {E:CD->CH->Prop} {RR:Addr->KA->CH->Prop}
    (I3:Inv X pins σ H3 s3) (T:Turn X.prog X.w X.K tg J fp it tn) (st3:tn 0 s3.heap) (f3:∀b∈fp,FpOk X pins H3 b) (w:rO g tf tb D (aZ cap σ) H3 Qv J)
    (fin:∀(C:Addr)(σ':St)(H':Hp)(s':CH),s3.heap.objs.size<=C->Inv (ao X scope N s3 H3 C fp) [] σ' H' s'->Qv H'->RR C (.ok .next) s'):
    wpAny (model X.prog X.w) X.A (newFunctionEnv scope X.env.globals (bT X.env scope.names []) [] X.env.qual none .none<|some X.env) (fun cenv s₄=>
      codeAny (model X.prog X.w) X.A (.compStart e 0 (.ref it) (.ref D) {cenv with scope:=relabel scope X.env}) (RR cenv.locals) s₄) E s3:=by
  refine gL ?_;generalize hC:s3.heap.objs.size=C;generalize hH4:pushCells (s3.heap.push {cls:=.type "dict",data:=.dict #[]}) scope.names=h4;have hz3':(s3.heap.push {cls:=.type "dict",data:=.dict #[]}).objs.size=C+1:=by rw[DJ,hC]
  have ck:Lb h4 (C+1) (cellsFrom (C+1) scope.names []):=by
    have:=Km scope.names (s3.heap.push {cls:=.type "dict",data:=.dict #[]}) (C+1) [] ⟨fun _ _ hm=>(nomatch hm),Fz⟩ (by rw[hz3'];exact CU _);rw[hz3',hH4]at this;exact this
  have k34:∀b o,s3.heap.get? b=some o->h4.get? b=some o:=fun b o e=>by rw[<-hH4];exact G1 _ _ b o<|CB _ e
  have hn4:h4.Ns C fun _=>none:=by
    rw[<-hH4,<-hC];exact(KU s3.heap<|.type "dict").keeps (G1 _ _)
  have hlt:∀b∈fp,b<C:=fun b hb=>by
    obtain⟨o,e,_⟩:=T.obj _ _ st3 b hb;rw[<-hC];exact CP e
  have hCs:s3.heap.objs.size<=C:=by rw[hC];exact CU _
  have IC:Inv (ao X scope N s3 H3 C fp) [] (aZ cap σ) H3 {s3 with heap:=h4}:=
    gM S I3 hCs ck f3 hlt ⟨_,_,rfl⟩ hn4 fun b o e=>k34 b o e
  have okC:=IC.ok;have fO:∀b∈fp,FpOk (ao X scope N s3 H3 C fp) [] H3 b:=fun b hb=>
    ⟨(f3 b hb).1,D0<|hlt b hb,okC.exfs b hb,.inl hb,(okC.exf b hb).2,fun p hp=>by
      have:p∈([]:List (Addr×Obj)):=hp;cases this⟩
  have st4:tn 0 h4:=T.keep _ _ _ st3 fun b hb o e=>k34 b o e;have loop:codeAny (model X.prog X.w) X.A (.compLoop e 0 (.ref it) (.ref D) (ao X scope N s3 H3 C fp).env) (RR C) {s3 with heap:=h4}:=
    nF (Y:=ao X scope N s3 H3 C fp) hc rfl (hg _ _ _ _) (hf _ _ _ _) (hb _ _ _ _) ce T IC st4 fO w (ht _ _ _) fun σ' H' s' I' _ q=>fin C σ' H' s' hCs I' q
  exact gG ce hcl rfl loop<|T.self _ 0 _ _ _ st4 loop
theorem rP{it acc:CD}{env:Env}{e iter2:Expr}{d:Nat}{c:Code}:dG tg iter ifs (wD iter2 e d env acc) it env c=(do
 standAt iter.pos
 match <-pyNext it with
 |none=>pure (.done .next)
 |some v=>
  letOwnedTupleGo tg it v
  assign tg env v
  let mut ok:=true
  for c in ifs do
   if ok then ok <-isTrue c env (eval c env)
  if ok then
    let x <-eval iter2 env
    standAt iter2.pos
    let x <-foldedSetIterable iter2 env x
    let _ <-runOwn (.compStart e d (<-holding [x] (pyIter x)) acc env) env
  again c):=by
 unfold dG wD;simp only[bind_assoc,pure_bind]
 all_goals rfl
variable{kx vx elt tg2 iter2 tg3 iter3:Expr}{ifs2 ifs3:List Expr}{wi2 wi3:TI}{g2 g3:TG}{tf2 tf3:TT}{te tk tv:TE}{mk:HO}
end
end L2
open L2.CompE renaming set->N8
namespace Wb
open PySem L2 Mi
section
variable{Er:Nat->Prop}{α β γ S:Type}{K:CF}{W W' W0 Wb W1 W2:Wd}{σ:St}{t ta tb te ti tk tv:TE}{i:Nat}{O:Wd->Addr->S->Prop}
theorem uw{t:TB}{D:Addr}{H:Hp}{M:Hp->Prop}(h:t D σ H M):yv σ H fun b H3=>if b=true then t D σ H3 M else M H3:=by
 show(if true=true then t D σ H M else M H);rw[if_pos rfl];exact h
def BV(Er:Nat->Prop)(t:TB)(σ:St)(Wb W:Wd)(O:Wd->Addr->S->Prop)(D:Addr)(m:S->Res S):Prop:=∀W1 s(N:Hp->Prop),Ext W W1->O W1 D s->(m s).OkE Er (fun s'=>∀W',Same W1.G W'.G->Ext Wb W'->O W' D s'->N W'.H)->t D σ W1.H N
theorem mm{R:Rp α}{J:It}{xs:List α}{g:TG}{tf:TT}{t:TB}{f:α->S->Res S}{D:Addr}{N:Hp->Prop}{s0:S}(hy:Yl J W R xs)(h0:Ext W W1\/Same W.G W1.G)(eb:Ext Wb W1)(o:O W1 D s0)
  (hs:∀W2 a v s(M:Hp->Prop),Same W.G W2.G->Ext Wb W2->O W2 D s->R W2.G a v->(f a s).OkE Er (fun s'=>∀W',Same W2.G W'.G->Ext Wb W'->O W' D s'->M W'.H)->g v σ W2.H fun σ2 H2=>Keep σ σ2/\tf σ2 H2 fun b H3=>if b=true then t D σ2 H3 M else M H3)
  (mono:∀W W' s,Ext W W'->O W D s->O W' D s)
  (k:(bR f xs s0).OkE Er fun s'=>∀W',Same W.G W'.G->Ext Wb W'->O W' D s'->N W'.H):rO g tf t D σ W1.H N J:=by
 have hs1:Same W.G W1.G:=h0.elim (fun e=>e.g) id;refine⟨fun i n H=>n=xs.length-i/\i<=xs.length/\∃(W3:Wd)(s:S),W3.H=H/\Same W.G W3.G/\Ext Wb W3/\O W3 D s/\(bR f (xs.drop i) s).OkE Er fun s'=>∀W',Same W.G W'.G->Ext Wb W'->O W' D s'->N W'.H,⟨xs.length,by simp,by simp,W1,s0,rfl,hs1,eb,o,by simpa using k⟩,?_⟩;rintro i n H ⟨rfl,hi1,W3,s,rfl,e3,eb3,o3,q⟩;by_cases hlt:i<xs.length
 ·obtain⟨a,ha⟩:∃a,xs[i]? =some a:=⟨xs[i],by simp[hlt]⟩
  obtain⟨h1,h2⟩:=(hy W3 e3).1 i a ha;refine .inr ⟨h1,fun H'=>∃(W3:Wd)(s:S),W3.H=H'/\Same W.G W3.G/\Ext Wb W3/\O W3 D s/\(bR f (xs.drop<|i+1) s).OkE Er fun s'=>∀W',Same W.G W'.G->Ext Wb W'->O W' D s'->N W'.H,fun H' z=>⟨xs.length-(i+1),by omega,rfl,hlt,z⟩,fun x H' hx=>?_⟩;obtain⟨W4,rfl,e4,rx⟩:=h2 x H' hx;rw[lj ha]at q;exact hs W4 a x s _ (e3.trans e4.g) (eb3.trans e4) (mono _ _ _ e4 o3) rx<|(CA q).imp fun s' ks W' z1 z2 z3=>⟨W',s',rfl,(e3.trans e4.g).trans z1,z2,z3,ks⟩
 ·have e:i=xs.length:=by omega
  subst e;rw[FK]at q;exact .inl ⟨(hy W3 e3).2,q W3 e3 eb3 o3⟩
theorem yZ{R:Rp α}{wi:TI}{g:TG}{tf:TT}{t:TB}{mi:Res (List α)}{f:α->S->Res S}{D:Addr}(eb:Ext Wb W)(hi:IV Er wi σ W R mi)(mono:∀W W' s,Ext W W'->O W D s->O W' D s)
  (hs:∀W2 a v s(M:Hp->Prop),Same W.G W2.G->Ext Wb W2->O W2 D s->R W2.G a v->(f a s).OkE Er (fun s'=>∀W',Same W2.G W'.G->Ext Wb W'->O W' D s'->M W'.H)->g v σ W2.H fun σ2 H2=>Keep σ σ2/\tf σ2 H2 fun b H3=>if b=true then t D σ2 H3 M else M H3):
  BV Er (yX wi g tf t) σ Wb W O D (fun s=>mi.bind fun xs=>bR f xs s):=fun W1 s N e1 o k=>
 hi W1 e1 _ ((CA k).imp fun xs kx J W2 e2 hy=>mm (W:=W2) (Wb:=Wb) hy (.inl<|.refl _) ((eb.trans e1).trans e2) (mono _ _ _ e2 o) (fun W3 a v s M e3 eb3 o3 r k3=>hs W3 a v s M ((e1.trans e2).g.trans e3) eb3 o3 r k3) mono<|kx.imp fun s' ks W' z1 z2 z3=>ks W' (e2.g.trans z1) z2 z3)
end
end Wb
namespace Mi
end Mi
namespace Wb
open PySem L2 Mi
end Wb
namespace Mi
end Mi
namespace Wb
open PySem L2 Mi
section
open PyProof PyProof.Rows
variable{X:Cx}{pos:Pos}
end
end Wb
namespace Mi
end Mi
namespace Wb
open PySem L2 Mi
end Wb
namespace Mi
end Mi
namespace Wb
open PySem L2 Mi
end Wb
namespace L2
open PySem PySem.Spec PyProof.Rows
end L2
namespace L2
open PySem PySem.Spec PyProof.Rows Builtin Builtin.ObjectAttr
open PySem.W (findIn findObj mroIn looks_findIn looks_find looks_mroIn looks_clsIn clsIn Frag InstAt Looks)
end L2
namespace L2
open PySem PySem.Spec PySem.Calls PyProof.Rows
open PySem.W (findIn findObj mroIn looks_findIn looks_find looks_mroIn class_get KitX clsIn Frag InstAt lookIn)
def XO(a:Addr)(o:Obj):HO:=.ext fun h=>h.get? a=some o
section
variable{P:CT}{w:D6}{H:Hp}{h:Heap}{a d:Addr}{o:Obj}{fs:List (Str×V)}{mA:Str->Option CD}
theorem XO.ok(e:h.get? a=some o):ObjOk P w H h a (XO a o):=⟨e,⟨_,e⟩,fun _ _ p k=>k _ p⟩
end
end L2
open L2.XO renaming ok->Nb
namespace L2
open PySem PySem.Spec PySem.Calls PyProof.Rows
open PySem.W (findIn findObj clsIn Frag InstAt lookIn)
end L2
namespace Mi
end Mi
namespace Wb
open PySem L2 Mi
end Wb
namespace Mi
end Mi
namespace L2
open PySem PySem.Spec PyProof.Rows PySem.SeqAt PySem.AutoSeq1 PySem.MeetsSeq
end L2
namespace Wb
open PySem L2 Mi
end Wb
namespace Mi
def z6(a b:Int×Int):Bool:=decide (a.1<b.1)||(decide (a.1=b.1)&&decide (a.2<=b.2))
theorem jb{a b:Int×Int}:z6 a b=true↔a.1<b.1\/(a.1=b.1/\a.2<=b.2):=by unfold z6;simp
def eS(xs:List (Int×Int)):List (Int×Int):=xs.mergeSort z6
theorem dY(xs:List (Int×Int)):(eS xs).Perm xs:=JC _ _
theorem jQ(xs:List (Int×Int)):(eS xs).Pairwise (fun a b=>z6 a b=true):=
 Iw (le:=z6) (fun a b c h1 h2=>by rw[jb]at *;omega) (fun a b=>by simp only[L6,jb];omega) xs
theorem jR{xs ys:List (Int×Int)}(h:ys.Perm xs)(hs:ys.Pairwise (fun a b=>z6 a b=true)):ys=eS xs:=
 Ij (le:=fun a b=>z6 a b=true) (fun a b _ _ h1 h2=>by rw[jb]at *;exact IB (by omega) (by omega)) hs (jQ xs) (h.trans (dY xs).symm)
def rQ(ks:List (Int×Int))(k:Int×Int):Res (List<|Int×Int):=dQ (ks.length<1000) (if k∈ks then ks else k::ks)
def ux(ks:List (Int×Int)):Res (List<|Int×Int):=dQ (ks.length<=63)<|eS ks
end Mi
namespace Wb
open PySem
theorem jS{xs:Array Nat}{j:Nat}(up:∀a b,a<b->b<xs.size->xs.getD a 0<xs.getD b 0):∀(f lo hi:Nat),hi-lo<=f->lo<=hi->hi<=xs.size->(∀a,a<lo->xs.getD a 0<j)->(∀a,hi<=a->a<xs.size->j<=xs.getD a 0)->
  G4 xs j f lo hi<=xs.size/\(∀a,a<G4 xs j f lo hi->xs.getD a 0<j)/\(∀a,G4 xs j f lo hi<=a->a<xs.size->j<=xs.getD a 0)
 |0,lo,hi,h,hl,hs,h1,h2=>by
  unfold G4;exact⟨by omega,h1,fun a ha=>h2 a (by omega)⟩
 |f+1,lo,hi,h,hl,hs,h1,h2=>by
  unfold G4;by_cases z:lo<hi
  ·rw[if_pos z];have hm:(lo+hi)/2<hi:=by omega
   have hm2:lo<=(lo+hi)/2:=by omega
   have e:∀d d':Nat,xs.getD ((lo+hi)/2) d=xs.getD ((lo+hi)/2) d':=fun d d'=>by
    simp[Fo,show(lo+hi)/2<xs.size by omega]
   dsimp only;generalize hM:(lo+hi)/2=m at*
   by_cases y:xs.getD m j<j
   ·rw[if_pos y];refine jS up f (m+1) hi (by omega) (by omega) hs (fun a ha=>?_) h2;by_cases q:a=m;·subst q;rw[e 0 j];exact y
    ·have:=up a m (by omega) (by omega);rw[e 0 j]at this;omega
   ·rw[if_neg y];refine jS up f lo m (by omega) hm2 (by omega) h1<|fun a ha hb=>?_;by_cases q:a=m;·subst q;rw[e 0 j];omega
    ·have:=up m a (by omega) hb;rw[e 0 j]at this;omega
  ·rw[if_neg z];exact⟨by omega,h1,fun a ha=>h2 a (by omega)⟩
def Up(xs:Array Nat):Prop:=∀a b,a<b->b<xs.size->xs.getD a 0<xs.getD b 0
theorem i8{xs:Array Nat}(up:Up xs)(j:Nat):Ei xs j<=xs.size/\(∀a,a<Ei xs j->xs.getD a 0<j)/\(∀a,Ei xs j<=a->a<xs.size->j<=xs.getD a 0):=by
 unfold Ei;exact jS up xs.size 0 xs.size (by omega) (by omega) (by omega) (fun a ha=>by omega) (fun a ha hb=>by omega)
abbrev Pr:=SetTable.Probe
def fR(mask:Nat)(p:Pr):Pr:=if p.more>0 then {p with j:=p.j+1,more:=p.more-1} else {p with j:=(Dw mask p.i p.perturb).1,more:=DN mask (Dw mask p.i p.perturb).1-(Dw mask p.i p.perturb).1,i:=(Dw mask p.i p.perturb).1,perturb:=(Dw mask p.i p.perturb).2}
theorem jT(t:Eb)(p:Pr):t.advance p=fR t.mask p:=by unfold SetTable.advance fR;rfl
def itM(mask:Nat):Nat->Pr->Pr
 |0,p=>p
 |n+1,p=>itM mask n<|fR mask p
theorem eT(mask:Nat):∀(a b:Nat)(p:Pr),itM mask (a+b) p=itM mask b (itM mask a p)
 |0,b,p=>by rw[HA];rfl
 |a+1,b,p=>by rw[show a+1+b=(a+b)+1 by omega];exact eT mask a b<|fR mask p
theorem uy(mask n:Nat)(p:Pr):itM mask (n+1) p=fR mask (itM mask n p):=by rw[eT];rfl
def sE(mask i pt:Nat):Pr:={j:=i,more:=DN mask i-i,i,perturb:=pt,dummy:=none}
theorem jc(mask:Nat):∀(n:Nat)(p:Pr),p.more=n->p.dummy=none->itM mask (n+1) p=sE mask (Dw mask p.i p.perturb).1 (Dw mask p.i p.perturb).2
 |0,p,h,hd=>by
  show fR mask p=_;unfold fR sE;rw[if_neg (by omega)];cases p;simp at hd;subst hd;rfl
 |n+1,p,h,hd=>by
  show itM mask (n+1) (fR mask p)=_;have e:fR mask p={p with j:=p.j+1,more:=p.more-1}:=by unfold fR;rw[if_pos (by omega)]
  rw[e];exact jc mask n _ (by show p.more-1=n;omega) hd
theorem qo(mask i:Nat):DN mask i-i<=9:=by unfold DN;split<;>omega
def mK(mask:Nat):Nat->Nat×Nat->Nat×Nat
 |0,x=>x
 |n+1,x=>mK mask n<|Dw mask x.1 x.2
theorem uz(mask:Nat):∀(n i pt:Nat),∃k,k<=10*n/\itM mask k (sE mask i pt)=sE mask (mK mask n (i,pt)).1 (mK mask n (i,pt)).2
 |0,i,pt=>⟨0,by omega,rfl⟩
 |n+1,i,pt=>by
  obtain⟨k,hk,e⟩:=uz mask n (Dw mask i pt).1 (Dw mask i pt).2;have r:=jc mask _ (sE mask i pt) rfl rfl;have m:=qo mask i;refine⟨(sE mask i pt).more+1+k,?_,?_⟩
  ·have:(sE mask i pt).more<=9:=m;omega
  ·rw[eT,r];exact e
theorem qp(mask:Nat):∀(a b:Nat)(x:Nat×Nat),mK mask (a+b) x=mK mask b (mK mask a x)
 |0,b,x=>by rw[HA];rfl
 |a+1,b,x=>by rw[show a+1+b=(a+b)+1 by omega];exact qp mask a b _
theorem uA(mask:Nat):∀(n:Nat)(x:Nat×Nat),(mK mask n x).2=x.2/32^n
 |0,x=>by simp[mK]
 |n+1,x=>by
  show(mK mask n<|Dw mask x.1 x.2).2=_;rw[uA mask n];show x.2/32/32^n=_;rw[IT,Me,Nat.mul_comm]
theorem z7(mask:Nat):∀(n:Nat)(x:Nat×Nat),x.1<=mask->(mK mask n x).1<=mask
 |0,x,h=>h
 |n+1,x,h=>z7 mask n _ (by show(x.1*5+1+x.2/32)%(mask+1)<=mask;have:=HH (x.1*5+1+x.2/32) (show 0<mask+1 by omega);omega)
def vQ(mask:Nat):Nat->Nat->Nat
 |0,i=>i
 |n+1,i=>vQ mask n<|(i*5+1)%(mask+1)
theorem uB(mask:Nat):∀(n i:Nat),mK mask n (i,0)=(vQ mask n i,0)
 |0,i=>rfl
 |n+1,i=>by
  show mK mask n (Dw mask i 0)=_;rw[show Dw mask i 0=((i*5+1)%(mask+1),0) by simp[Dw],uB mask n];rfl
theorem jd(mask:Nat):∀(a b i:Nat),vQ mask (a+b) i=vQ mask b (vQ mask a i)
 |0,b,i=>by rw[HA];rfl
 |a+1,b,i=>by rw[show a+1+b=(a+b)+1 by omega];exact jd mask a b _
def isMask(m:Nat):Prop:=m=7\/m=31\/m=127\/m=511\/m=2047
def zG(m:Nat):Nat->Nat->Nat->Nat
 |0,_,acc=>acc
 |n+1,i,acc=>zG m n ((i*5+1)%(m+1))<|acc|||2^i
theorem qq(m:Nat):∀(n i acc e:Nat),(zG m n i acc).testBit e=true->acc.testBit e=true\/∃k,k<n/\vQ m k i=e
 |0,i,acc,e,h=>.inl h
 |n+1,i,acc,e,h=>by
  rcases qq m n _ _ e h with q|⟨k,hk,q⟩
  ·rw[Nat.testBit_or,L6]at q;rcases q with q|q
   ·exact .inl q
   ·rw[Nat.testBit_two_pow,decide_eq_true_eq]at q;exact .inr ⟨0,by omega,q⟩
  ·exact .inr ⟨k+1,by omega,q⟩
theorem BF{m:Nat}(h:isMask m):(∀e,e<m+1->∃k,k<m+1/\vQ m k 0=e)/\vQ m (m+1) 0=0:=by
 have key:∀m,zG m (m+1) 0 0=2^(m+1)-1->∀e,e<m+1->∃k,k<m+1/\vQ m k 0=e:=fun m hv e he=>by
  have hb:(zG m (m+1) 0 0).testBit e=true:=by rw[hv,Nat.testBit_two_pow_sub_one];simpa using he
  rcases qq m _ _ _ e hb with q|q;·simp at q
  ·exact q
 rcases h with rfl|rfl|rfl|rfl|rfl;·exact⟨key 7 (by decide +kernel),by decide +kernel⟩
 ·exact⟨key 31 (by decide +kernel),by decide +kernel⟩
 ·exact⟨key 127 (by decide +kernel),by decide +kernel⟩
 ·exact⟨key 511 (by decide +kernel),by decide +kernel⟩
 ·exact⟨key 2047 (by decide +kernel),by decide +kernel⟩
theorem uC{m:Nat}(h:isMask m){i e:Nat}(hi:i<=m)(he:e<=m):∃n,n<=m/\vQ m n i=e:=by
 obtain⟨h1,h2⟩:=BF h;obtain⟨a,ha,ea⟩:=h1 i (by omega);obtain⟨b,hb,eb⟩:=h1 e (by omega);by_cases z:a<=b
 ·refine⟨b- a,by omega,?_⟩;rw[<-ea,<-jd,show a+(b-a)=b by omega,eb]
 ·refine⟨m+1- a+b,by omega,?_⟩;rw[<-ea,<-jd,show a+(m+1-a+b)=(m+1)+b by omega,jd,h2,eb]
theorem Av{m:Nat}(h:isMask m){p:Pr}(hd:p.dummy=none)(hm:p.more<=9)(hp:p.perturb<2^64){e:Nat}(he:e<=m):∃k,k<10*Et m/\(itM m k p).j=e:=by
 have r:=jc m p.more p rfl hd;obtain⟨k1,hk1,e1⟩:=uz m 12 (Dw m p.i p.perturb).1 (Dw m p.i p.perturb).2;have z:(mK m 12 ((Dw m p.i p.perturb).1,(Dw m p.i p.perturb).2)).2=0:=by
  rw[uA];show p.perturb/32/32^12=0;rw[IT];exact KI (by omega)
 have i0:(Dw m p.i p.perturb).1<=m:=by
  show(p.i*5+1+p.perturb/32)%(m+1)<=m;have:=HH (p.i*5+1+p.perturb/32) (show 0<m+1 by omega);omega
 have i1:=z7 m 12 ((Dw m p.i p.perturb).1,(Dw m p.i p.perturb).2) i0;rw[z]at e1;generalize (mK m 12 ((Dw m p.i p.perturb).1,(Dw m p.i p.perturb).2)).1=i at*
 obtain⟨n,hn,en⟩:=uC h i1 he;obtain⟨k2,hk2,e2⟩:=uz m n i 0;rw[uB,en]at e2;refine⟨p.more+1+k1+k2,?_,?_⟩;·unfold Et;omega
 ·rw[eT,eT,r,e1,e2];rfl
def InP(xs:Array Nat)(j:Nat):Prop:=∃a,a<xs.size/\xs.getD a 0=j
theorem nG{xs:Array Nat}{a:Nat}(h:a<xs.size):xs[a]? =some (xs.getD a 0):=by simp[Fo,h]
theorem gf{xs:Array Nat}(up:Up xs){a:Nat}(h:a<xs.size):Ei xs (xs.getD a 0)=a:=by
 obtain⟨h0,h1,h2⟩:=i8 up<|xs.getD a 0;generalize Ei xs (xs.getD a 0)=b at*
 by_cases z:a<b;·have:=h1 a z;omega
 ·by_cases y:b< a
  ·have:=up b a y h;have:=h2 b (by omega) (by omega);omega
  ·omega
theorem rR{xs:Array Nat}(up:Up xs){j:Nat}(h:¬InP xs j):(xs[Ei xs j]? ==some j)=false:=by
 obtain⟨h0,h1,h2⟩:=i8 up j;by_cases z:Ei xs j<xs.size
 ·rw[nG z];rw[beq_eq_false_iff_ne];intro e;injection e with e;exact h ⟨_,z,e⟩
 ·rw[FX (by omega)];rfl
structure Tp(t:Eb)(hs:List Int):Prop where
 dm:t.dummies= #[]
 sz:t.place.size=hs.length
 up:Up t.place
 le:∀j,InP t.place j->j<=t.mask
 msk:isMask t.mask
 reach:∀i h,hs[i]? =some h->∃k,(itM t.mask k<|t.probeStart h).j=t.place.getD i 0/\∀k',k'<k->InP t.place (itM t.mask k'<|t.probeStart h).j
structure Tb(t:Eb)(hs:List Int):Prop extends Tp t hs where
 room:hs.length*5<t.mask*3
section
variable{t:Eb}{hs:List Int}
theorem Tb.live(T:Tb t hs){i:Nat}(h:i<t.place.size):t.slot (t.place.getD i 0)=.live i:=by
 unfold LX;dsimp only;rw[gf T.up h,nG h];simp
theorem Tb.empty(T:Tb t hs){j:Nat}(h:¬InP t.place j):t.slot j=.empty:=by
 unfold LX;dsimp only;rw[if_neg (by rw[rR T.up h];decide)];unfold Kq;rw[T.dm];rfl
theorem uD(t:Eb)(h:Int):(t.probeStart h).dummy=none/\(t.probeStart h).more<=9/\(t.probeStart h).perturb<2^64:=by
 refine⟨rfl,qo _ _,?_⟩;show(h%(2^64:Int)).toNat<2^64;omega
theorem z8{xs:Array Nat}(up:Up xs){m:Nat}(h:xs.size<=m):∃j,j<=m/\¬InP xs j:=by
 have base:∀n,n<=xs.size->(∀j,j<n->InP xs j)->∀a,a<n->xs.getD a 0=a:=by
  intro n hn hin a
  induction a using L7 with
  |_ a ih=>
   intro ha;obtain⟨b,hb,eb⟩:=hin a ha;have lo:∀a,a<xs.size->a<=xs.getD a 0:=by
    intro a
    induction a with
    |zero=>intro _;omega
    |succ a ih=>intro h;have:=ih (by omega);have:=up a (a+1) (by omega) h;omega
   have:=lo b hb;by_cases z:b=a;·rw[<-z];rw[z]at eb;rw[z];exact eb
   ·have:=ih b (by omega) (by omega);omega
 by_cases hall:∀j,j<xs.size->InP xs j
 ·refine⟨xs.size,h,fun⟨a,ha,ea⟩=>?_⟩;have:=base xs.size (by omega) hall a ha;omega
 ·have ⟨j,hj⟩:=Hl.mp hall;have ⟨h1,h2⟩:=HZ.mp hj;exact⟨j,by omega,h2⟩
theorem Tb.gap(T:Tb t hs){p:Pr}(hp:p.dummy=none/\p.more<=9/\p.perturb<2^64):∃k,k<10*Et t.mask/\¬InP t.place (itM t.mask k p).j/\∀k',k'<k->InP t.place (itM t.mask k' p).j:=by
 obtain⟨e,he,hn⟩:=z8 T.up (m:=t.mask) (by have:=T.sz;have:=T.room;omega);obtain⟨k,hk,ek⟩:=Av T.msk hp.1 hp.2.1 hp.2.2 he;rw[<-ek]at hn;clear ek
 induction k using L7 with
 |_ k ih=>
  by_cases z:∀k',k'<k->InP t.place (itM t.mask k' p).j;·exact⟨k,hk,hn,z⟩
  ·have ⟨k',h'⟩:=Hl.mp z;have ⟨h1,h2⟩:=HZ.mp h';exact ih k' h1 h2 (by omega)
theorem Tb.go(T:Tb t hs){hashAt:Nat->Int}(hA:∀i h,hs[i]? =some h->hashAt i=h)(h:Int):∀(E fuel:Nat)(p:Pr),p.dummy=none->E<fuel->¬InP t.place (itM t.mask E p).j->(∀k',k'<E->InP t.place (itM t.mask k' p).j)->
  (∃k i,k<E/\i<hs.length/\t.place.getD i 0=(itM t.mask k p).j/\hs[i]? =some h/\G5 t hashAt h fuel p=some (.candidate (itM t.mask k p).j i (itM t.mask (k+1) p))/\∀k',k'<k->∀i,t.place.getD i 0=(itM t.mask k' p).j->i<hs.length->hs[i]? ≠some h)\/
  (G5 t hashAt h fuel p=some (.empty (itM t.mask E p).j none)/\∀k',k'<E->∀i,t.place.getD i 0=(itM t.mask k' p).j->i<hs.length->hs[i]? ≠some h)
 |0,fuel+1,p,hd,hf,hn,ha=>by
  refine .inr ⟨?_,fun k' hk=>absurd hk (by omega)⟩;unfold G5;rw[T.empty (j:=p.j) hn,hd];rfl
 |E+1,fuel+1,p,hd,hf,hn,ha=>by
  obtain⟨a,h1,h2⟩:=ha 0 (by omega);have h2':t.place.getD a 0=p.j:=h2;have one:∀i,t.place.getD i 0=p.j->i<hs.length->i=a:=fun i hi hl=>by
   have hi':i<t.place.size:=by have:=T.sz;omega
   rw[<-gf T.up hi',hi,<-h2',gf T.up h1]
  unfold G5;rw[<-h2',T.live h1];dsimp only;have hl:a<hs.length:=by have:=T.sz;omega
  by_cases z:hashAt a=h
  ·refine .inl ⟨0,a,by omega,hl,h2,?_,?_,fun k' hk=>absurd hk (by omega)⟩
   ·have e:=hA a hs[a] (CJ hl);rw[CJ hl,<-e,z]
   ·rw[if_pos (by simpa using z),jT,h2'];rfl
  ·rw[if_neg (by simpa using z),jT];have hne:∀i,t.place.getD i 0=p.j->i<hs.length->hs[i]? ≠some h:=fun i hi hl' e=>z (by rw[one i hi hl']at e;exact hA a h e);have hd':(fR t.mask p).dummy=none:=by unfold fR;split<;>exact hd
   rcases Tb.go T hA h E fuel (fR t.mask p) hd' (by omega) hn (fun k' hk=>ha (k'+1) (by omega))with⟨k,i,g1,g2,g3,g4,g5,g6⟩|⟨g1,g2⟩
   ·refine .inl ⟨k+1,i,by omega,g2,g3,g4,g5,fun k' hk=>?_⟩;cases k' with
    |zero=>exact hne
    |succ k'=>exact g6 k' (by omega)
   ·refine .inr ⟨g1,fun k' hk=>?_⟩;cases k' with
    |zero=>exact hne
    |succ k'=>exact g2 k' (by omega)
theorem jU{α:Type}(xs:Array α)(p:Nat)(x:α):(Eo xs p x).toList=xs.toList.take p++x::xs.toList.drop p:=by
 unfold Eo;simp[Array.toList_append,Kr,Fj]
theorem eI{α:Type}(xs:Array α){p:Nat}(h:p<=xs.size)(x:α):(Eo xs p x).size=xs.size+1:=by
 rw[<-Em,jU];simp;omega
theorem wF{α:Type}(xs:Array α){p:Nat}(h:p<=xs.size)(x:α)(a:Nat):(Eo xs p x)[a]? =if a<p then xs[a]? else if a=p then some x else xs[a-1]? :=by
 rw[<-E2,jU];by_cases z:a<p;·rw[if_pos z,Dq (by simp;omega),F5 z,E2]
 ·rw[if_neg z,Dg (by simp;omega)];have hl:(M7 p xs.toList).length=p:=by simp;omega
  rw[hl];by_cases y:a=p;·rw[if_pos y,y];simp
  ·rw[if_neg y,show a- p=(a- p- 1)+1 by omega,Ep,Fn,E2];congr 1;omega
theorem i9(xs:Array Nat){p:Nat}(h:p<=xs.size)(x:Nat)(a:Nat):(Eo xs p x).getD a 0=if a<p then xs.getD a 0 else if a=p then x else xs.getD (a-1) 0:=by
 rw[Dx,wF xs h];split;·rw[Dx]
 ·split;·rfl
  ·rw[Dx]
theorem qr{xs:Array Nat}{p:Nat}(h:p<=xs.size){x j:Nat}:InP (Eo xs p x) j↔j=x\/InP xs j:=by
 constructor
 ·rintro ⟨a,ha,e⟩;rw[eI xs h]at ha;rw[i9 xs h]at e;by_cases z:a<p;·rw[if_pos z]at e;exact .inr ⟨a,by omega,e⟩
  ·rw[if_neg z]at e;by_cases y:a=p;·rw[if_pos y]at e;exact .inl e.symm
   ·rw[if_neg y]at e;exact .inr ⟨a-1,by omega,e⟩
 ·rintro (rfl | ⟨a,ha,e⟩);·exact⟨p,by rw[eI xs h];omega,by rw[i9 xs h,if_neg (by omega),if_pos rfl]⟩
  ·by_cases z:a< p;·exact⟨a,by rw[eI xs h];omega,by rw[i9 xs h,if_pos z,e]⟩
   ·exact⟨a+1,by rw[eI xs h];omega,by rw[i9 xs h,if_neg (by omega),if_neg (by omega)];exact e⟩
theorem Tb.put(T:Tb t hs){h:Int}{E:Nat}(hn:¬InP t.place (itM t.mask E<|t.probeStart h).j)(hj:(itM t.mask E<|t.probeStart h).j<=t.mask)(ha:∀k',k'<E->InP t.place (itM t.mask k'<|t.probeStart h).j):
  (t.put (itM t.mask E<|t.probeStart h).j).2<=hs.length/\(t.put (itM t.mask E<|t.probeStart h).j).1.mask=t.mask/\Tp (t.put (itM t.mask E<|t.probeStart h).j).1 (hs.take (t.put (itM t.mask E<|t.probeStart h).j).2++h::hs.drop (t.put (itM t.mask E<|t.probeStart h).j).2):=by
 obtain⟨b0,b1,b2⟩:=i8 T.up (itM t.mask E<|t.probeStart h).j;generalize hJ:(itM t.mask E<|t.probeStart h).j=j at*
 have hp2:(t.put j).2=Ei t.place j:=rfl;have hpl:(t.put j).1.place=Eo t.place (Ei t.place j) j:=rfl;have hmk:(t.put j).1.mask=t.mask:=rfl;have hst:∀h,(t.put j).1.probeStart h=t.probeStart h:=fun _=>rfl;have hsz:=T.sz;generalize Ei t.place j=p at*
 rw[hp2];refine⟨by omega,rfl,?_,?_,?_,?_,T.msk,?_⟩
 ·show(if Kq t.dummies j then _ else t.dummies)= #[];unfold Kq;rw[T.dm];rfl
 ·rw[hpl,eI _ b0];simp;omega
 ·rw[hpl];intro a b hab hb;rw[eI _ b0]at hb;rw[i9 _ b0,i9 _ b0];have gt:∀a,p<=a->a<t.place.size->j<t.place.getD a 0:=fun a h1 h2=>by
   have:=b2 a h1 h2;by_cases z:t.place.getD a 0=j;·exact absurd ⟨a,h2,z⟩ hn
   ·omega
  by_cases z1:a<p
  ·rw[if_pos z1];by_cases z2:b<p;·rw[if_pos z2];exact T.up a b hab (by omega)
   ·rw[if_neg z2];by_cases z3:b=p;·rw[if_pos z3];exact b1 a z1
    ·rw[if_neg z3];have:=b1 a z1;have:=gt (b-1) (by omega) (by omega);omega
  ·rw[if_neg z1,if_neg (show ¬b< p by omega),if_neg (show ¬b=p by omega)];by_cases z3:a=p;·rw[if_pos z3];exact gt (b-1) (by omega) (by omega)
   ·rw[if_neg z3];exact T.up (a-1) (b-1) (by omega) (by omega)
 ·intro q hq;rw[hpl,qr b0]at hq;rcases hq with rfl|hq
  ·exact hj
  ·exact T.le q hq
 ·intro i g hg;rw[hmk,hst,hpl];have mono:∀q,InP t.place q->InP (Eo t.place p j) q:=fun q hq=>(qr b0).mpr (.inr hq);have hl:(hs.take p).length=p:=by simp;omega
  by_cases z1:i<p
  ·rw[Dq (by omega),F5 z1]at hg;obtain⟨k,ek,hk⟩:=T.reach i g hg;exact⟨k,by rw[ek,i9 _ b0,if_pos z1],fun k' h'=>mono _<|hk k' h'⟩
  ·rw[Dg (by omega),hl]at hg;by_cases z2:i=p
   ·rw[z2,IU,EL]at hg;cases hg;exact⟨E,by rw[hJ,i9 _ b0,if_neg z1,if_pos z2],fun k' h'=>mono _<|ha k' h'⟩
   ·rw[show i- p=(i- p- 1)+1 by omega,Ep,Fn]at hg;rw[show p+(i-p-1)=i-1 by omega]at hg;obtain⟨k,ek,hk⟩:=T.reach (i-1) g hg;exact⟨k,by rw[ek,i9 _ b0,if_neg z1,if_neg z2],fun k' h'=>mono _<|hk k' h'⟩
end
def Oc(ow:Array (Option Nat))(j:Nat):Prop:=(ow.getD j<|some 0).isSome=true
theorem mn(m i pt:Nat):∀k,k<=DN m i-i->itM m k (sE m i pt)={j:=i+k,more:=DN m i-i-k,i:=i,perturb:=pt,dummy:=none}
 |0,_=>rfl
 |k+1,h=>by
  rw[uy,mn m i pt k (by omega)];unfold fR;rw[if_pos (by show DN m i-i-k>0;omega)];rfl
theorem rS(m i:Nat):i<=DN m i:=by unfold DN;split<;>omega
theorem qt{m:Nat}(ow:Array (Option Nat)):∀(f i pt n:Nat),n<f->¬Oc ow (mK m n (i,pt)).1->
  ∃j E,EY m ow f i pt=some j/\(itM m E<|sE m i pt).j=j/\¬Oc ow j/\∀k',k'<E->Oc ow (itM m k'<|sE m i pt).j
 |0,_,_,_,h,_=>absurd h (by omega)
 |f+1,i,pt,n,h,hn=>by
  have hr:=rS m i;unfold EY;cases hf:(DP<|DN m i+1-i).find? fun k=>(ow.getD (i+k)<|some 0).isNone with
  |some k=>
   have hk:=G7.mp<|List.mem_of_find?_eq_some hf;have hp:=List.find?_some hf;have hb:=(List.find?_range_eq_some.mp hf).2.2;refine⟨i+k,k,rfl,by rw[mn m i pt k (by omega)],?_,fun k' hk'=>?_⟩;·unfold Oc;simp at hp ⊢;exact hp
   ·rw[mn m i pt k' (by omega)];have:=hb k' hk';unfold Oc;simpa using this
  |none=>
   have hall:=List.find?_eq_none.mp hf;have occ:∀k,k<=DN m i-i->Oc ow (i+k):=fun k hk=>by
    have:=hall k (G7.mpr (by omega));unfold Oc;cases q:ow.getD (i+k) (some 0)with
    |none=>rw[q]at this;exact absurd rfl this
    |some a=>rfl
   cases n with
   |zero=>exact absurd (occ 0 (by omega)) hn
   |succ n=>
    obtain⟨j,E,e1,e2,e3,e4⟩:=qt ow f (Dw m i pt).1 (Dw m i pt).2 n (by omega) hn;have r:=jc m (DN m i-i) (sE m i pt) rfl rfl;refine⟨j,(DN m i-i)+1+E,e1,?_,e3,fun k' hk'=>?_⟩;·rw[eT,r];exact e2
    ·by_cases z:k'<=DN m i- i;·rw[mn m i pt k' z];exact occ k' z
     ·rw[show k'=(DN m i- i)+1+(k'- ((DN m i- i)+1)) by omega,eT,r];exact e4 _ (by omega)
abbrev stM(m:Nat)(h:Int):Pr:=sE m (DA h%(m+1))<|DA h
theorem wG(h:Int):DA h<2^64:=by show(h%(2^64:Int)).toNat<2^64;omega
theorem wH{m:Nat}(hm:isMask m)(ow:Array (Option Nat))(h:Int){e:Nat}(he:e<=m)(hn:¬Oc ow e):
  ∃j E,EY m ow (Et m) (DA h%(m+1)) (DA h)=some j/\(itM m E<|stM m h).j=j/\¬Oc ow j/\∀k',k'<E->Oc ow (itM m k'<|stM m h).j:=by
 have i0:DA h%(m+1)<=m:=by have:=HH (DA h) (show 0<m+1 by omega);omega
 have z:(mK m 13 (DA h%(m+1),DA h)).2=0:=by
  rw[uA];exact KI (by have:=wG h;show DA h<32^13;omega)
 have i1:=z7 m 13 (DA h%(m+1),DA h) i0;obtain⟨n,hn',en⟩:=uC hm i1 he;refine qt ow _ _ _ (13+n) (by unfold Et;omega) ?_;rw[qp,show mK m 13 (DA h%(m+1),DA h)=((mK m 13 (DA h%(m+1),DA h)).1,0)from IB rfl z,uB,en];exact hn
structure Lay(m:Nat)(hs:List Int)(ow:Array (Option Nat))(k:Nat):Prop where
 sz:ow.size=m+1
 cnt:ow.toList.countP JJ=k
 inj:∀(j j' i:Nat),ow[j]? =some (some i)->ow[j']? =some (some i)->j=j'
 lt:∀(j i:Nat),ow[j]? =some (some i)->i<k
 reach:∀(j i:Nat)(h:Int),ow[j]? =some (some i)->hs[i]? =some h->∃n,(itM m n<|stM m h).j=j/\∀n',n'<n->Oc ow (itM m n'<|stM m h).j
theorem ia{ow:Array (Option Nat)}{j:Nat}(hj:j<ow.size):Oc ow j↔∃i,ow[j]? =some (some i):=by
 unfold Oc;simp[Fo,hj];cases ow[j]<;>simp
theorem Lay.gap{m:Nat}{hs:List Int}{ow:Array (Option Nat)}{k:Nat}(L:Lay m hs ow k)(h:k<=m):∃e,e<=m/\¬Oc ow e:=by
 by_cases z:∀e,e<=m->Oc ow e
 ·exfalso;have:ow.toList.countP JJ=ow.toList.length:=List.countP_eq_length.mpr fun a ha=>by
   obtain⟨j,hj,e⟩:=Fc.mp ha;have hj':j<ow.size:=by simpa using hj
   obtain⟨i,hi⟩:=(ia hj').mp (z j (by have:=L.sz;omega));rw[<-e];have:ow.toList[j]=some i:=by
    have q:ow.toList[j]? =some (some i):=by rw[E2];exact hi
    rw[CJ hj]at q;injection q
   rw[this];rfl
  rw[L.cnt,Em,L.sz]at this;omega
 ·have ⟨e,he⟩:=Hl.mp z;have ⟨h1,h2⟩:=HZ.mp he;exact⟨e,h1,h2⟩
theorem Aw{ow:Array (Option Nat)}{j:Nat}(h:¬Oc ow j):j<ow.size:=by
 by_cases z:j<ow.size;·exact z
 ·exact absurd (by unfold Oc;simp[Fo,z]) h
theorem Lay.step{m:Nat}(hm:isMask m){hs:List Int}{ow:Array (Option Nat)}{k:Nat}(L:Lay m hs ow k)(hk:k<=m){h:Int}(hh:hs[k]? =some h):
  ∃j,EY m ow (Et m) (DA h%(m+1)) (DA h)=some j/\Lay m hs (ow.setIfInBounds j<|some k) (k+1):=by
 obtain⟨e,he,hn⟩:=L.gap hk;obtain⟨j,E,e1,e2,e3,e4⟩:=wH hm ow h he hn;have hj:=Aw e3;refine⟨j,e1,?_⟩;have none_j:ow[j]? =some none:=by
  have:¬∃i,ow[j]? =some (some i):=fun z=>e3<|(ia hj).mpr z;rw[DC hj]at this ⊢;cases q:ow[j]with
  |none=>rfl
  |some i=>exact absurd ⟨i,by rw[q]⟩ this
 have at_:∀q,(ow.setIfInBounds j<|some k)[q]? =if q=j then some (some k)else ow[q]? :=fun q=>by
  rw[Array.getElem?_setIfInBounds];by_cases z:j=q;·subst z;simp[hj]
  ·rw[if_neg z,if_neg<|F3 z]
 have oc:∀q,Oc ow q->Oc (ow.setIfInBounds j<|some k) q:=fun q hq=>by
  by_cases hs':q<ow.size
  ·obtain⟨i,hi⟩:=(ia hs').mp hq;refine(ia (by simpa using hs')).mpr ?_;rw[at_];by_cases z:q=j;·exact⟨k,by rw[if_pos z]⟩
   ·exact⟨i,by rw[if_neg z];exact hi⟩
  ·unfold Oc;simp[Fo,hs']
 refine⟨by simp[L.sz],?_,?_,?_,?_⟩
 ·have hj2:j< ow.toList.length:=by simpa using hj
  have q:ow.toList[j]=none:=by
   have:=none_j;rw[<-E2,CJ hj2]at this;injection this
  rw[Array.toList_setIfInBounds,List.countP_set hj2,q,L.cnt];simp
 ·intro a b i ha hb;rw[at_]at ha hb;by_cases z1:a=j
  ·rw[if_pos z1]at ha;injection ha with ha;injection ha with ha;by_cases z2:b=j;·rw[z1,z2]
   ·rw[if_neg z2]at hb;have:=L.lt b i hb;omega
  ·rw[if_neg z1]at ha;by_cases z2:b=j
   ·rw[if_pos z2]at hb;injection hb with hb;injection hb with hb;have:=L.lt a i ha;omega
   ·rw[if_neg z2]at hb;exact L.inj a b i ha hb
 ·intro a i ha;rw[at_]at ha;by_cases z1:a=j
  ·rw[if_pos z1]at ha;injection ha with ha;injection ha with ha;omega
  ·rw[if_neg z1]at ha;have:=L.lt a i ha;omega
 ·intro a i g ha hg;rw[at_]at ha;by_cases z1:a=j
  ·rw[if_pos z1]at ha;injection ha with ha;injection ha with ha;subst ha;rw[hh]at hg;cases hg;exact⟨E,by rw[z1];exact e2,fun n' h'=>oc _<|e4 n' h'⟩
  ·rw[if_neg z1]at ha;obtain⟨n,q1,q2⟩:=L.reach a i g ha hg;exact⟨n,q1,fun n' h'=>oc _<|q2 n' h'⟩
theorem rV(m:Nat)(hs:List Int):Lay m hs (J6 (m+1) none) 0:=by
 have no:∀(j i:Nat),(J6 (m+1) (none:Option Nat))[j]? =some (some i)->False:=fun j i h=>by
  rw[Array.getElem?_replicate]at h;split at h<;>simp at h
 refine⟨by simp,?_,fun j j' i h _=>(no j i h).elim,fun j i h=>(no j i h).elim,fun j i _ h _=>(no j i h).elim⟩;rw[Array.toList_replicate,List.countP_replicate];rfl
abbrev mq(m:Nat)(acc:Option (Array (Option Nat)×Nat))(h:Int):Option (Array (Option Nat)×Nat):=do
 let (owner,k) <-acc
 let j <-EY m owner (Et m) (DA h%(m+1)) (DA h)
 pure (owner.setIfInBounds j<|some k,k+1)
theorem nH{m:Nat}(hm:isMask m)(hs:List Int):∀(r:List Int)(ow:Array (Option Nat))(k:Nat),Lay m hs ow k->hs.drop k=r->hs.length<=m->k<=hs.length->∃ow',r.foldl (mq m) (some (ow,k))=some (ow',hs.length)/\Lay m hs ow' hs.length
 | [],ow,k,L,hd,hl,hk=>by
  have:k=hs.length:=by
   have:=congrArg FP hd;simp at this;omega
  subst this;exact⟨ow,rfl,L⟩
 |h::r,ow,k,L,hd,hl,hk=>by
  have hk2:k<hs.length:=by
   have:=congrArg FP hd;simp at this;omega
  have hh:hs[k]? =some h:=by
   have:(hs.drop k)[0]? =some h:=by rw[hd];rfl
   rw[Fn]at this;exact this
  obtain⟨j,e,L'⟩:=L.step hm (by omega) hh;have e':mq m (some (ow,k)) h=some (ow.setIfInBounds j<|some k,k+1):=by
   show(EY m ow (Et m) (DA h%(m+1))<|DA h).bind _=_;rw[e];rfl
  rw[IZ,e'];exact nH hm hs r _ _ L' (by rw[<-List.drop_drop,hd];rfl) hl (by omega)
theorem nI{m:Nat}(hm:isMask m){hs:Array Int}(hl:hs.size<=m):∃ow,SetTable.layClean m hs=some ow/\Lay m hs.toList ow hs.size:=by
 obtain⟨ow,e,L⟩:=nH hm hs.toList hs.toList _ 0 (rV m hs.toList) rfl (by simpa using hl) (by simp);refine⟨ow,?_,by simpa using L⟩;show MU (·.1) (hs.foldl (mq m)<|some (J6 (m+1) none,0))=_;rw[<-Array.foldl_toList,e];rfl
abbrev de(m:Nat)(ow:Array (Option Nat)):List (Nat×Nat):=(DP<|m+1).filterMap fun j=>(ow.getD j none).map (j, ·)
theorem fg{m:Nat}{ow:Array (Option Nat)}(hs:ow.size=m+1){j i:Nat}:(j,i)∈de m ow↔ow[j]? =some (some i):=by
 unfold de;rw[Gs];constructor
 ·rintro ⟨q,hq,e⟩;rw[DM]at e;obtain⟨a,e1,e2⟩:=e;injection e2 with e2 e3;subst e2;subst e3;have:=G7.mp hq;have hq':q<ow.size:=by omega
  simp[Fo,hq']at e1;rw[DC hq',e1]
 ·intro h;have hj:j<ow.size:=(E1.mp h).1;refine⟨j,G7.mpr (by omega),?_⟩;rw[Dx,h];rfl
theorem mr{f:Nat->Option Nat}:∀{l:List Nat},l.Pairwise (· < ·)->((l.filterMap fun j=>(f j).map (j, ·)).map (·.1)).Pairwise (· < ·)
 | [],_=>by simp
 |a::l,h=>by
  have ih:=mr (f:=f) (HI.mp h).2;cases e:f a with
  |none=>simpa [e] using ih
  |some b=>
   rw[Il (b:=(a,b)) (by rw[e];rfl),Dk];refine HI.mpr ⟨fun q hq=>?_,ih⟩;obtain⟨x,hx,rfl⟩:=DU.mp hq;obtain⟨c,hc,e2⟩:=Gs.mp hx;rw[DM]at e2;obtain⟨_,_,rfl⟩:=e2;exact(HI.mp h).1 c hc
theorem uE{f:Nat->Option Nat}:∀(l:List Nat),(l.filterMap fun j=>(f j).map (j, ·)).length=(l.map f).countP JJ
 | []=>rfl
 |a::l=>by
  have ih:=uE (f:=f) l;cases e:f a with
  |none=>rw[List.filterMap_cons_none (by rw[e];rfl),ih];simp[e]
  |some b=>rw[Il (b:=(a,b)) (by rw[e];rfl)];simp[e,ih]
theorem uF{m k:Nat}{hs:List Int}{ow:Array (Option Nat)}(L:Lay m hs ow k):(de m ow).length=k:=by
 unfold de;rw[uE (f:=fun j=>ow.getD j none),<-L.cnt];congr 1;refine List.ext_getElem (by simp[L.sz]) fun i h1 h2=>?_;simp at h1 h2;simp[Fo,h2]
theorem uG:∀(n:Nat)(l:List Nat),l.Nodup->(∀x∈l,x<n)->l.length<=n
 |0,l,_,h=>by
  cases l with
  |nil=>simp
  |cons a l=>exact absurd (h a<|CZ ..) (by omega)
 |n+1,l,nd,h=>by
  by_cases z:n∈l
  ·have:=uG n (l.erase n) (nd.erase n) fun x hx=>by
    have h1:=h x<|GS hx;have h2:x≠n:=fun e=>by subst e;exact(Gi nd) hx
    omega
   rw[Gj z]at this;omega
  ·have:=uG n l nd fun x hx=>by
    have h1:=h x hx;have h2:x≠n:=fun e=>z<|e▸hx;omega
   omega
theorem qu:∀(n:Nat)(l:List Nat),l.Nodup->(∀x∈l,x<n)->l.length=n->l.Perm (DP n)
 |0,l,_,_,h=>by rw[Gz.mp h];exact .refl _
 |n+1,l,nd,h,hl=>by
  have z:n∈l:=by
   by_cases z:n∈l;·exact z
   ·have:=uG n l nd fun x hx=>by
     have h1:=h x hx;have h2:x≠n:=fun e=>z<|e▸hx;omega
    omega
  have:=qu n (l.erase n) (nd.erase n) (fun x hx=>by
    have h1:=h x<|GS hx;have h2:x≠n:=fun e=>by subst e;exact(Gi nd) hx
    omega) (by rw[Gj z];omega)
  rw[List.range_succ];exact(List.perm_cons_erase z).trans ((List.Perm.cons n this).trans (List.perm_append_singleton n _).symm)
theorem wI{l:List Nat}(h:l.Pairwise (· < ·)):Up l.toArray:=fun a b hab hb=>by
 have hb':b<l.length:=by simpa using hb
 have:=Fu.mp h a b (by omega) hb' hab;simpa [Fo,show a<l.length by omega,hb'] using this
theorem lC{m i:Nat}(h:i<=m):i+(DN m i-i)<=m:=by unfold DN;split<;>omega
theorem Ax{m:Nat}{p:Pr}(h:p.j+p.more<=m):(fR m p).j+(fR m p).more<=m:=by
 unfold fR;split;·show p.j+1+(p.more-1)<=m;omega
 ·refine lC ?_;show(p.i*5+1+p.perturb/32)%(m+1)<=m;have:=HH (p.i*5+1+p.perturb/32) (show 0<m+1 by omega);omega
theorem Ay{m:Nat}:∀(n:Nat){p:Pr},p.j+p.more<=m->(itM m n p).j+(itM m n p).more<=m
 |0,_,h=>h
 |n+1,_,h=>Ay n<|Ax h
theorem xW{m:Nat}{h:Int}(n:Nat):(itM m n<|stM m h).j<=m:=by
 have:=Ay (m:=m) n (p:=stM m h) (lC (i:=DA h%(m+1)) (by have:=HH (DA h) (show 0<m+1 by omega);omega));omega
theorem wJ{m:Nat}(hm:isMask m){hs:Array Int}(hl:hs.size<=m)(fi mo:Nat)(led plain:Bool):
  ∃t order,LY m fi mo led plain hs=some (t,order)/\t.mask=m/\t.led=led/\t.plain=plain/\order.toList.Perm (DP hs.size)/\Tp t (order.toList.map fun i=>hs.toList.getD i 0):=by
 obtain⟨ow,e,L⟩:=nI hm hl;refine⟨_,_,by unfold LY;rw[e];rfl,rfl,rfl,rfl,?_,?_⟩
 ·show((de m ow).map (·.2)).toArray.toList.Perm _;have len:=uF L;have inc:=mr (f:=fun j=>ow.getD j none)<|IW (n:=m+1);have nd1:((de m ow).map (·.1)).Nodup:=inc.imp fun h=>D0 h;refine qu hs.size _ ?_ (fun x hx=>?_) (by simpa using len)
  ·show((de m ow).map (·.2)).Nodup;rw[Eu,GL];rw[Eu,GL]at nd1;refine nd1.imp_of_mem fun{a b}ha hb hne e=>hne ?_;have h1:=(fg L.sz (j:=a.1) (i:=a.2)).mp ha;have h2:=(fg L.sz (j:=b.1) (i:=b.2)).mp hb;rw[<-e]at h2;exact L.inj _ _ _ h1 h2
  ·obtain⟨y,hy,rfl⟩:=DU.mp (show x∈(de m ow).map (·.2)from hx);exact L.lt _ _<|(fg L.sz (j:=y.1) (i:=y.2)).mp hy
 ·have inc:=mr (f:=fun j=>ow.getD j none)<|IW (n:=m+1);have inp:∀j,InP ((de m ow).map (·.1)).toArray j↔∃i,ow[j]? =some (some i):=fun j=>by
   constructor
   ·rintro ⟨a,ha,e⟩;have ha':a<(de m ow).length:=by simpa using ha
    have:((de m ow)[a]).1=j:=by simpa [Fo,ha'] using e
    have mem:=FL ha';rw[<-this];exact⟨_,(fg L.sz (j:=(de m ow)[a].1) (i:=(de m ow)[a].2)).mp mem⟩
   ·rintro ⟨i,hi⟩;have mem:=(fg L.sz).mpr hi;obtain⟨a,ha,e⟩:=Fc.mp mem;exact⟨a,by simpa using ha,by simp[Fo,ha,e]⟩
  have ocp:∀j,j<=m->Oc ow j->InP ((de m ow).map (·.1)).toArray j:=fun j hj h=>(inp j).mpr ((ia (by have:=L.sz;omega)).mp h);refine⟨rfl,?_,wI inc,?_,hm,?_⟩
  ·show((de m ow).map (·.1)).toArray.size=(Na _ ((de m ow).map (·.2)).toArray.toList).length;simp
  ·intro j hj;obtain⟨i,hi⟩:=(inp j).mp hj;have:=(E1.mp hi).1;have:=L.sz;show j<=m;omega
  ·intro a h ha;have ha2:((de m ow)[a]?).map (fun y=>hs.toList.getD y.2 0)=some h:=by
    have:(((de m ow).map (·.2)).map fun i=>hs.toList.getD i 0)[a]? =some h:=ha;rw[F6,CQ]at this;exact this
   obtain⟨y,hy,e⟩:=DM.mp ha2;have mem:=Dh hy;have at_:=(fg L.sz (j:=y.1) (i:=y.2)).mp mem;have lt:=L.lt _ _ at_;have hh:hs.toList[y.2]? =some h:=by
    have hlt:y.2<hs.toList.length:=by simpa using lt
    rw[Dj,CJ hlt]at e;rw[CJ hlt];exact congrArg some e
   obtain⟨n,q1,q2⟩:=L.reach _ _ _ at_ hh;have hla:a<(de m ow).length:=(CL.mp hy).1;refine⟨n,?_,fun n' h'=>?_⟩
   ·show(itM m n<|stM m h).j=((de m ow).map (·.1)).toArray.getD a 0;rw[q1,Dx];simp only[List.getElem?_toArray,CQ,hy];rfl
   ·refine ocp _ ?_<|q2 n' h';by_cases z:(itM m n'<|stM m h).j<=m;·exact z
    ·exfalso;exact z<|xW n'
section
variable{prog:CT}{w:D6}{K:Type}[DecidableEq K]{knd:KeyKind prog w K}{A:Dr}{E:CD->CH->Prop}{s:CH}
structure TupsOf(knd:KeyKind prog w K)(h:Heap)(es:List (Int×CD))(ks:List (List K)):Prop where
 len:es.length=ks.length
 at_:∀(i:Nat)(e:Int×CD),es[i]? =some e->∃k b,ks[i]? =some k/\e.2=.ref b/\Fp knd h k b/\e.1=tupleKeyHash knd k
theorem Tb.fits{t:Eb}{es:Array (Int×CD)}(T:Tb t (es.toList.map (·.1))):t.fits es.size=true:=by
 have h1:=T.sz;have h2:=T.room;have h3:=T.dm;simp at h1 h2;unfold LZ JK;rw[h3];simp;omega
theorem uH{m:Nat}(h:isMask m):(m%2==0)=false:=by rcases h with rfl|rfl|rfl|rfl|rfl<;>rfl
theorem xX{m:Nat}:∀(k:Nat){p:Pr},p.dummy=none->(itM m k p).dummy=none
 |0,_,h=>h
 |k+1,p,h=>xX k (by unfold fR;split<;>exact h)
theorem oV{a x:Addr}{o:Obj}{es:Array (Int×CD)}{ep:Nat}{t:Eb}{ks:List (List K)}{kx:List K}(hu:A.units<cLine)(ho:s.heap.get? a=some o)(hd:o.data=.set es ep t)(T:Tb t (es.toList.map (·.1)))(hk:TupsOf knd s.heap es.toList ks)(hx:Fp knd s.heap kx x)
  (seen:∀(l:List CD)(Q:Bool->CH->Prop),(∀y∈l,∃e∈es.toList,y=e.2)->Q false s->wpAny (model prog w) A (searchCouldBeSeen (.ref x) l) Q E s) {Q:SetFound->CH->Prop}:
  ∀(fuel G:Nat)(st:Option Pr),(st.getD<|t.probeStart<|tupleKeyHash knd kx).dummy=none->G<fuel->G<10*Et t.mask-> ¬InP t.place (itM t.mask G<|st.getD<|t.probeStart<|tupleKeyHash knd kx).j->(∀k',k'<G->InP t.place (itM t.mask k'<|st.getD<|t.probeStart<|tupleKeyHash knd kx).j)->
   ((∃k i,k<G/\t.place.getD i 0=(itM t.mask k<|st.getD<|t.probeStart<|tupleKeyHash knd kx).j/\ks[i]? =some kx)->Q (.there none) s)->
   ((∀k i,k<G->t.place.getD i 0=(itM t.mask k<|st.getD<|t.probeStart<|tupleKeyHash knd kx).j->i<es.size->ks[i]? ≠some kx)->Q (.free (itM t.mask G<|st.getD<|t.probeStart<|tupleKeyHash knd kx).j false) s)->
   wpAny (model prog w) A (setSearchFrom a (.ref x) (tupleKeyHash knd kx) true fuel st) Q E s:=by
 intro fuel
 induction fuel with
 |zero=>intro G st _ h;exact absurd h (by omega)
 |succ fuel ih=>
  intro G st hdm hG hGt hn ha h1 h2;unfold setSearchFrom;refine Cy<|ED ho hd T.fits ?_;dsimp only;rw[if_neg (by unfold SetTable.gaveWay;rw[uH T.msk];decide)];generalize hp:st.getD (t.probeStart<|tupleKeyHash knd kx)=p at*
  have hA:∀(i:Nat)(h:Int),(es.toList.map (·.1))[i]? =some h->(fun(i:Nat)=>(es[i]?.map (fun(e:Int×CD)=>e.1)).getD 0) i=h:=fun i h hh=>by
   rw[CQ,E2]at hh;show(es[i]?.map (fun(e:Int×CD)=>e.1)).getD 0=h;rw[hh];rfl
  have go:=T.go hA (tupleKeyHash knd kx) G (10*Et t.mask) p hdm hGt hn ha;have hpr:t.probe (fun(i:Nat)=>(es[i]?.map (fun(e:Int×CD)=>e.1)).getD 0) (tupleKeyHash knd kx) p=G5 t (fun(i:Nat)=>(es[i]?.map (fun(e:Int×CD)=>e.1)).getD 0) (tupleKeyHash knd kx) (10*Et t.mask) p:=rfl;rw[<-hpr]at go;rcases go with⟨k,i,g1,g2,g3,g4,g5,g6⟩|⟨g1,g2⟩
  ·have e:∀f,f=(fun(i:Nat)=>(es[i]?.map (fun(e:Int×CD)=>e.1)).getD 0)->t.probe f (tupleKeyHash knd kx) p=some (.candidate (itM t.mask k p).j i (itM t.mask (k+1) p)):=fun f hf=>by rw[hf];exact g5
   have hi:i<es.size:=by simpa using g2
   obtain⟨ky,b,q1,q2,q3,q4⟩:=hk.at_ i es[i] (by rw[E2,DC hi]);have hei:es[i]? =some (es[i].1,.ref b):=by rw[DC hi,<-q2]
   have key_ne:∀k' i',k'<k->t.place.getD i' 0=(itM t.mask k' p).j->i'<es.size->ks[i']? ≠some kx:=fun k' i' hk' hi' hl hq=>by
    have hl':i'<es.toList.length:=by simpa using hl
    obtain⟨kz,c,z1,z2,z3,z4⟩:=hk.at_ i' es.toList[i'] (CJ hl');rw[z1]at hq;cases hq;refine g6 k' hk' i' hi' (by simpa using hl) ?_;rw[CQ,CJ hl',<-z4];rfl
   have one:∀i',t.place.getD i' 0=(itM t.mask k p).j->i'<es.size->i'=i:=fun i' hi' hl=>by
    have h1':i'<t.place.size:=by have:=T.sz;simp at this;omega
    have h2':i<t.place.size:=by have:=T.sz;simp at this;omega
    rw[<-gf T.up h1',hi',<-g3,gf T.up h2']
   have again:ky≠kx->wpAny (model prog w) A (setSearchFrom a (.ref x) (tupleKeyHash knd kx) true fuel<|some<|itM t.mask (k+1) p) Q E s:=fun hne=>by
    have ad:∀n,itM t.mask n (itM t.mask (k+1) p)=itM t.mask (k+1+n) p:=fun n=>(eT t.mask (k+1) n p).symm;refine ih (G-(k+1)) (some<|itM t.mask (k+1) p) ?_ (by omega) (by omega) ?_ ?_ ?_ ?_;·exact xX (k+1) hdm
    ·show ¬InP t.place (itM t.mask _<|itM t.mask (k+1) p).j;rw[ad,show k+1+(G-(k+1))=G by omega];exact hn
    ·intro k' hk';show InP t.place (itM t.mask _<|itM t.mask (k+1) p).j;rw[ad];exact ha _ (by omega)
    ·rintro ⟨k',i',r1,r2,r3⟩;have r2':t.place.getD i' 0=(itM t.mask k'<|itM t.mask (k+1) p).j:=r2;rw[ad]at r2';exact h1 ⟨k+1+k',i',by omega,r2',r3⟩
    ·intro r;show Q (.free (itM t.mask _<|itM t.mask (k+1) p).j false) s;rw[ad,show k+1+(G-(k+1))=G by omega];refine h2 fun k' i' z1 z2 z3=>?_;by_cases y1:k'<k;·exact key_ne k' i' y1 z2 z3
     ·by_cases y2:k'=k
      ·subst y2;rw[one i' z2 z3,q1];intro z;injection z with z;exact hne z
      ·refine r (k'- (k+1)) i' (by omega) ?_ z3;show t.place.getD i' 0=(itM t.mask _<|itM t.mask (k+1) p).j;rw[ad,show k+1+(k'-(k+1))=k' by omega];exact z2
   have hlive:t.slot (itM t.mask k p).j=.live i:=by rw[<-g3];exact T.live (by have:=T.sz;simp at this;omega)
   have hmem:t.sameMemory t.moves t.mask=some true:=by unfold SetTable.sameMemory;simp
   rw[e]
   ·dsimp only;simp only[hei];by_cases hl:t.led=true
    ·rw[if_neg (by simp[hl])];refine Cy<|DQ<|(tupleKind knd).eqBool hu q3 hx ?_;refine Cy<|ED ho hd T.fits ?_;dsimp only;by_cases hq:ky=kx
     ·rw[decide_eq_true hq,if_pos (by decide)];exact CG<|h1 ⟨k,i,g1,g3,hq▸q1⟩
     ·rw[decide_eq_false hq,if_neg (by decide),hmem];dsimp only;rw[if_pos rfl,hlive];dsimp only;rw[hei];dsimp only;refine Cy<|Je ?_;refine Cy<|CG ?_;exact again hq
    ·rw[if_pos (by simp[hl])];refine Cy<|seen _ _ (fun y hy=>?_) ?_
     ·obtain⟨z,hz,rfl⟩:=DU.mp hy;exact⟨z,by simp at hz;simpa using hz.1,rfl⟩
     rw[if_neg (by decide)];refine Cy<|DQ<|(tupleKind knd).eqBool hu q3 hx ?_;refine Cy<|ED ho hd T.fits ?_;dsimp only;by_cases hq:ky=kx
     ·rw[decide_eq_true hq,if_pos (by decide)];exact CG<|h1 ⟨k,i,g1,g3,hq▸q1⟩
     ·rw[decide_eq_false hq,if_neg (by decide),hmem];dsimp only;rw[if_pos rfl,hlive];dsimp only;rw[hei];dsimp only;refine Cy<|Je ?_;refine Cy<|CG ?_;exact again hq
   ·rfl
  ·have e:∀f,f=(fun(i:Nat)=>(es[i]?.map (fun(e:Int×CD)=>e.1)).getD 0)->t.probe f (tupleKeyHash knd kx) p=some (.empty (itM t.mask G p).j none):=fun f hf=>by rw[hf];exact g1
   rw[e]
   ·refine CG<|h2 fun k i hk' hi hl hq=>?_;have hl':i<es.toList.length:=by simpa using hl
    obtain⟨ky,b,q1,q2,q3,q4⟩:=hk.at_ i es.toList[i] (CJ hl');rw[q1]at hq;cases hq;refine g2 k hk' i hi (by simpa using hl) ?_;rw[CQ,CJ hl',<-q4];rfl
   ·rfl
end
section
variable{prog:CT}{w:D6}{K:Type}[DecidableEq K]{knd:KeyKind prog w K}{A:Dr}{E:CD->CH->Prop}{s:CH}
theorem rW{n:Nat}{v:CD}(h:carriedByValue v=true):ofAClassStatement n v=pure false:=by
 cases v<;>first|(cases n<;>rfl)|(exfalso;revert h;simp[carriedByValue])
theorem lD{ks:List K}{a:Addr}{Q:Bool->CH->Prop}(hk:Fp knd s.heap ks a)(h:Q false s):wpAny (model prog w) A (ofAClassStatement 8<|.ref a) Q E s:=by
 have hT:=hk.typeIs;obtain⟨o,items,n,ho,_,hd,hi⟩:=hk;unfold ofAClassStatement;refine Cy<|wpAny_typeOf hT ?_;dsimp only;rw[if_pos (by rfl)];refine Cy<|CG ?_;rw[if_neg (by decide)];refine Cy<|DL ho hd ?_;dsimp only;refine Cy ?_;show wpAny _ _ (forIn items _ _) _ _ s;rw[<-K9];refine ID _ (fun rest r s'=>r.1=none/\s'=s/\∀v∈rest,carriedByValue v=true) _ ?_ ?_ _ _ ⟨rfl,rfl,hi.byValue⟩
 ·rintro v rest r s' ⟨hr,rfl,hall⟩;rw[rW<|hall v CZ];refine Cy<|CG ?_;simp only[Dm,if_false];exact CG ⟨rfl,rfl,fun u hu'=>hall u<|D7 _ hu'⟩
 ·rintro ⟨r1,r2⟩ s' ⟨hr,rfl,_⟩;simp only at hr;subst hr;exact CG h
theorem uI{kx:List K}{x:Addr}(hx:Fp knd s.heap kx x):∀(l:List CD){Q:Bool->CH->Prop},(∀y∈l,∃k b,y=.ref b/\Fp knd s.heap k b)->Q false s->wpAny (model prog w) A (searchCouldBeSeen (.ref x) l) Q E s:=by
 intro l Q hl h;unfold searchCouldBeSeen;refine Cy ?_;refine ID _ (fun rest r s'=>r.1=none/\s'=s/\∀y∈rest,∃k b,y=.ref b/\Fp knd s.heap k b) _ ?_ ?_ _ _ ⟨rfl,rfl,hl⟩
 ·rintro v rest r s' ⟨hr,rfl,hall⟩;obtain⟨k,b,rfl,hb⟩:=hall v CZ;dsimp only;by_cases z:x=b
  ·rw[if_pos (by simp[z])];exact CG ⟨rfl,rfl,fun u hu'=>hall u<|D7 _ hu'⟩
  ·rw[if_neg (by simp[z,carriedByValue])];refine Cy<|(tupleKind knd).quiet hx ?_;simp only[He,Dm,if_false];refine Cy<|(tupleKind knd).quiet hb ?_;simp only[He,Dm,if_false];refine Cy<|lD hx ?_;simp only[Dm,if_false];refine Cy<|lD hb ?_;simp only[Dm,if_false];exact CG ⟨rfl,rfl,fun u hu'=>hall u<|D7 _ hu'⟩
 ·rintro ⟨r1,r2⟩ s' ⟨hr,rfl,_⟩;simp only at hr;subst hr;exact CG h
end
section
variable{prog:CT}{w:D6}{K:Type}[DecidableEq K]{knd:KeyKind prog w K}
theorem nJ{h h':Heap}{a b:Addr}{o:Obj}{es:Array (Int×CD)}{ep:Nat}{t:Eb}{k:List K}(hk:Fp knd h k b)(ho:h.get? a=some o)(hd:o.data=.set es ep t)(hs:D5 a h h'):Fp knd h' k b:=by
 obtain⟨ob,items,n,h1,h2,h3,h4⟩:=hk;have ne:b≠a:=fun z=>by
  subst z;rw[ho]at h1;cases h1;rw[hd]at h3;cases h3
 exact⟨ob,items,n,(hs.2 b ne).trans h1,h2,h3,h4⟩
theorem TupsOf.keep{h h':Heap}{a:Addr}{o:Obj}{es:Array (Int×CD)}{ep:Nat}{t:Eb}{l:List (Int×CD)}{ks:List (List K)}(T:TupsOf knd h l ks)(ho:h.get? a=some o)(hd:o.data=.set es ep t)(hs:D5 a h h'):TupsOf knd h' l ks:=
 ⟨T.len,fun i e he=>let ⟨k,b,q1,q2,q3,q4⟩:=T.at_ i e he;⟨k,b,q1,q2,nJ q3 ho hd hs,q4⟩⟩
end
section
variable{prog:CT}{w:D6}{K:Type}[DecidableEq K]{knd:KeyKind prog w K}{A:Dr}{E:CD->CH->Prop}{s:CH}
theorem uJ{ks:List K}{a:Addr}{Q:Bool->CH->Prop}(hI:∀k∈ks,∀v,knd.is k v=true->∃i t,v=.int i t)(hk:Fp knd s.heap ks a)(h:Q true s):wpAny (model prog w) A (hashByValue 8<|.ref a) Q E s:=by
 have hT:=hk.typeIs;obtain⟨o,items,n,ho,_,hd,hi⟩:=hk;unfold hashByValue;refine Cy<|Gm hT F.slot_tuple_hash.lookup ?_;show wpAny _ _ (seqItems? (.ref a)>>=_) _ _ s;refine Cy<|DL ho hd ?_;dsimp only;refine Cy ?_;show wpAny _ _ (forIn items _ _) _ _ s;rw[<-K9];have hall:∀v∈items.toList,∃i t,v=.int i t:=by
  clear hd ho;generalize items.toList=l at hi
  induction hi with
  |nil=>intro v hv;cases hv
  |cons h1 _ ih=>
   intro v hv;rcases CW.mp hv with rfl|hv
   ·exact hI _ (CZ ..) _ h1
   ·exact ih (fun k hk=>hI k<|D7 _ hk) v hv
 refine ID _ (fun rest r s'=>r.1=none/\s'=s/\∀v∈rest,∃i t,v=Ip i t) _ ?_ ?_ _ _ ⟨rfl,rfl,hall⟩
 ·rintro v rest r s' ⟨hr,rfl,hall⟩;obtain⟨i,t,rfl⟩:=hall v CZ;show wpAny _ _ (hashByValue 7 (.int i t)>>=_) _ _ _;rw[show hashByValue 7 (.int i t)=pure true from rfl];refine Cy<|CG ?_;exact CG ⟨rfl,rfl,fun u hu'=>hall u<|D7 _ hu'⟩
 ·rintro ⟨r1,r2⟩ s' ⟨hr,rfl,_⟩;simp only at hr;subst hr;exact CG h
structure SetT(knd:KeyKind prog w K)(h:Heap)(a:Addr)(led:Bool)(ks:List (List K))(o:Obj)(es:Array (Int×CD))(ep:Nat)(t:Eb):Prop where
 at_:h.get? a=some o
 ex:o.ExactSet
 dat:o.data=.set es ep t
 tab:Tb t (es.toList.map (·.1))
 tup:TupsOf knd h es.toList ks
 nd:ks.Nodup
 led:t.led=led
 pl:t.plain=true
theorem Tp.fits{t:Eb}{es:Array (Int×CD)}(T:Tp t (es.toList.map (·.1)))(h:es.size<=t.mask):t.fits es.size=true:=by
 have h1:=T.sz;have h3:=T.dm;simp at h1;unfold LZ JK;rw[h3];simp;omega
theorem Tp.full{t:Eb}{es:Array (Int×CD)}(T:Tp t (es.toList.map (·.1))):t.tooFull=decide (es.size*5≥t.mask*3):=by
 have h1:=T.sz;simp at h1;unfold SetTable.tooFull JK;rw[T.dm,h1];simp
theorem wK{es:Array (Int×CD)}{order:Array Nat}(h:order.toList.Perm (DP es.size)):(order.filterMap (es[·]?)).toList=order.toList.map fun i=>es.toList.getD i (0,.none):=by
 rw[Array.toList_filterMap];have:∀i∈order.toList,i<es.size:=fun i hi=>by have:=h.mem_iff.mp hi;simpa using this
 generalize order.toList=l at this;clear h
 induction l with
 |nil=>rfl
 |cons i l ih=>
  have hi:=this i<|CZ ..;rw[Fi,DC hi,Dk,ih fun j hj=>this j<|D7 _ hj];congr 1;rw[Dj,CJ (by simpa using hi)];rfl
theorem iJ{α:Type}(l:List α)(d:α):(DP l.length).map (fun i=>l.getD i d)=l:=by
 apply EW;intro i;rw[CQ];by_cases z:i<l.length
 ·rw[F0 z,CJ z];simp[Dj,z]
 ·rw[E3 (by simpa using z),E3 (by simpa using z)];rfl
theorem TupsOf.order{h:Heap}{es:List (Int×CD)}{ks:List (List K)}(U:TupsOf knd h es ks){l:List Nat}(hl:l.Perm (DP es.length)):TupsOf knd h (l.map fun i=>es.getD i (0,.none)) (l.map fun i=>ks.getD i []):=by
 refine⟨by simp,fun i e he=>?_⟩;rw[CQ]at he;obtain⟨j,hj,e1⟩:=DM.mp he;have hlt:j<es.length:=by have:=hl.mem_iff.mp<|Dh hj;simpa using this
 obtain⟨k,b,q1,q2,q3,q4⟩:=U.at_ j es[j] (CJ hlt);have e2:e=es[j]:=by rw[<-e1,Dj,CJ hlt];rfl
 subst e2;refine⟨k,b,?_,q2,q3,q4⟩;rw[CQ,hj];simp[Dj,q1]
theorem uK{a:Addr}{o:Obj}{es es1:Array (Int×CD)}{ep n:Nat}{t t1:Eb}{led:Bool}{ks1:List (List K)}(ho:s.heap.get? a=some o)(hex:o.ExactSet)(hd:o.data=.set es ep t)(T1:Tp t1 (es1.toList.map (·.1)))(U1:TupsOf knd s.heap es1.toList ks1)(nd1:ks1.Nodup)(hl:t1.led=led)(hpl:t1.plain=true)(hn:es1.size=n)(h0:0<n)(h63:n<=1000)(hr:(n-1)*5<t1.mask*3){Q:Bool->CH->Prop}
  (h:∀h' ks' o' es' ep' t',D5 a s.heap h'->SetT knd h' a led ks' o' es' ep' t'->ks'.Perm ks1->es'.toList.Perm es1.toList->Q true {s with heap:=h'}):
  wpAny (model prog w) A (do
    storeSet a es1 t1
    if(!false&&t1.tooFull)=true then setRelay a (Gb n)
    pure true) Q E s:=by
 have put:∀(s:CH)(o:Obj)es ep t(es':Array (Int×CD))(t':Eb),s.heap.get? a=some o->o.data=.set es ep t->(s.heap.update a<|HJ es' t').get? a=some {o with data:=.set es' (ep+1) t'}:=fun s o es ep t es' t' ho hd=>by
  have:=DS (HJ es' t') ho (by rw[putSet_of es' t' hd];rfl);rw[putSet_of es' t' hd]at this;exact this
 have big:1000<=sizeLine:=by rw[E6];omega
 have mk:=T1.msk;refine Cy (Ks ho hd ?_ (by omega));have ho1:=put s o es ep t es1 t1 ho hd;have sb1:=E4 s.heap a<|HJ es1 t1;have U2:=U1.keep ho hd sb1;rw[T1.full];by_cases z:es1.size*5≥t1.mask*3
 ·rw[decide_eq_true z,if_pos (by rfl)];unfold setRelay;refine Cy (Cy (ED ho1 rfl (T1.fits (by rcases mk with y|y|y|y|y<;>omega)) ?_));dsimp only;have hw:Gy (Gb n)<=2048/\isMask (Gy (Gb n)-1)/\n*5<(Gy (Gb n)-1)*3:=by
   rcases mk with y|y|y|y|y
   ·have:n=5:=by omega
    subst this;exact⟨by decide,.inr (.inl (by decide)),by decide⟩
   ·have:n=19:=by omega
    subst this;exact⟨by decide,.inr (.inr (.inl (by decide))),by decide⟩
   ·have:n=77:=by omega
    subst this;exact⟨by decide,.inr (.inr (.inr (.inl (by decide)))),by decide⟩
   ·have:n=307:=by omega
    subst this;exact⟨by decide,.inr (.inr (.inr (.inr (by decide)))),by decide⟩
   ·omega
  rw[if_neg (by have:=hw.1;rw[E6];omega)];obtain⟨t2,order,e2,m2,l2,p2,pm,T2⟩:=wJ hw.2.1 (hs:=es1.map (·.1)) (by simp;omega) t1.finger (t1.movedTo<|Gy (Gb n)-1) t1.led t1.plain;have er:t1.relaid (es1.map (·.1)) (Gb n)=some (t2,order):=e2;have pm':order.toList.Perm (DP es1.size):=by simpa using pm
  have fm:=wK (es:=es1) pm';have fs:(order.filterMap (es1[·]?)).size=es1.size:=by
   rw[<-Em,fm,Dc,pm'.length_eq,I9]
  rw[er];have key:∀(f:Array (Int×CD)->Option (Eb×Array Nat)->Sem (Array (Int×CD)×Eb))(R:(Array (Int×CD)×Eb)->CH->Prop)(s:CH),(∀es l,f es l=(do
     let some (t,order):=l|unsupported "internal:set-table-without-room"
     let es':=order.filterMap (es[·]?)
     if es'.size != es.size then unsupported "internal:set-table-lost-an-element"
     pure (es',t)))->R (order.filterMap (es1[·]?),t2) s->wpAny (model prog w) A (f es1 (some (t2,order))) R E s:=fun f R s hf hR=>by
   rw[hf];dsimp only;rw[if_neg (by rw[fs];simp)];exact CG hR
  refine Cy<|key _ _ _ (fun _ _=>rfl) ?_;dsimp only;refine Ks ho1 rfl ?_ (by rw[fs];omega);have ho2:=put {s with heap:=s.heap.update a (HJ es1 t1)} _ _ _ _ (order.filterMap (es1[·]?)) t2 ho1 rfl;have sb2:=E4 (s.heap.update a<|HJ es1 t1) a (HJ (order.filterMap (es1[·]?)) t2);have U3:=U2.order (l:=order.toList) (by simpa using pm');rw[<-fm]at U3;have U4:=U3.keep ho1 rfl sb2;have pk:(order.toList.map fun i=>ks1.getD i []).Perm ks1:=by
   have:=pm'.map<|fun i=>ks1.getD i [];have hl:es1.size=ks1.length:=by have:=U1.len;simpa using this
   rw[hl,iJ]at this;exact this
  have pe:(order.filterMap (es1[·]?)).toList.Perm es1.toList:=by
   rw[fm];have:=pm'.map<|fun i=>es1.toList.getD i (0,Df);have hl:es1.size=es1.toList.length:=by simp
   rw[hl,iJ]at this;exact this
  refine CG (h _ _ _ _ _ _ (sb1.trans sb2) ⟨ho2,hex,rfl,⟨?_,?_⟩,U4,pk.nodup_iff.mpr nd1,by rw[l2];exact hl,by rw[p2];exact hpl⟩ pk pe)
  ·rw[fm,F6];have:((fun x:Int×CD=>x.1)∘fun i=>es1.toList.getD i (0,.none))=fun i=>(es1.map (·.1)).toList.getD i 0:=funext fun i=>by
    simp only[Function.comp,Dj,KJ,CQ];cases es1.toList[i]? <;>rfl
   rw[this];exact T2
  ·rw[Dc,Em,fs,m2];have:=hw.2.2;omega
 ·rw[decide_eq_false z,if_neg (by decide)];refine CG (h _ _ _ _ _ _ sb1 ⟨ho1,hex,rfl,⟨T1,by simp;omega⟩,U2,nd1,hl,hpl⟩ (.refl _)<|.refl _)
theorem wL{a x:Addr}{o:Obj}{es:Array (Int×CD)}{ep:Nat}{t:Eb}{led:Bool}{ks:List (List K)}{kx:List K}(hu:A.units<cLine)(S:SetT knd s.heap a led ks o es ep t)(hn:es.size<1000)(hx:Fp knd s.heap kx x)(hI:∀k∈kx,∀v,knd.is k v=true->∃i t,v=.int i t)
  {Q:Bool->CH->Prop} {fuel:Nat}
  (h1:kx∈ks->Q false s) (h2:kx∉ks->∀h' ks' o' es' ep' t',D5 a s.heap h'->SetT knd h' a led ks' o' es' ep' t'->ks'.Perm (kx::ks)->es'.toList.Perm ((tupleKeyHash knd kx,.ref x)::es.toList)->Q true {s with heap:=h'}):
  wpAny (model prog w) A (setAddHashedIn a (.ref x) (tupleKeyHash knd kx)<|fuel+1) Q E s:=by
 unfold setAddHashedIn;refine Cy<|ED S.at_ S.dat S.tab.fits ?_;dsimp only;rw[if_neg (by unfold byScan;simp[Value.scannable])];obtain⟨G,g1,g2,g3⟩:=S.tab.gap<|uD t<|tupleKeyHash knd kx;have mem:∀i,i<es.size->ks[i]? =some kx->∃k,k<G/\t.place.getD i 0=(itM t.mask k<|t.probeStart<|tupleKeyHash knd kx).j:=fun i hi z=>by
  have hi':i<es.toList.length:=by simpa using hi
  obtain⟨k,b,q1,q2,q3,q4⟩:=S.tup.at_ i es.toList[i] (CJ hi');rw[q1]at z;cases z;obtain⟨n,r1,r2⟩:=S.tab.reach i (tupleKeyHash knd kx) (by rw[CQ,CJ hi',<-q4];rfl);refine⟨n,?_,r1.symm⟩;by_cases y:n<G;·exact y
  ·by_cases y2:n=G
   ·subst y2;refine absurd ?_ g2;rw[r1];exact⟨i,by have:=S.tab.sz;simp at this;omega,rfl⟩
   ·exact absurd (r2 G (by omega)) g2
 refine Cy ?_;unfold setSearch;have ht:t.mask<=2047:=by rcases S.tab.msk with z|z|z|z|z<;>omega
 refine oV (knd:=knd) hu S.at_ S.dat S.tab S.tup hx (fun l Q hl h=>uI hx l (fun y hy=>?_) h) 100000 G none rfl (by unfold Et at g1;omega) g1 g2 g3 ?_ ?_
 ·obtain⟨e,he,rfl⟩:=hl y hy;obtain⟨i,hi,rfl⟩:=Fc.mp he;obtain⟨k,b,q1,q2,q3,q4⟩:=S.tup.at_ i es.toList[i] (CJ hi);exact⟨k,b,q2,q3⟩
 ·rintro ⟨k,i,_,_,hq⟩;exact CG<|h1<|Dh hq
 ·intro hall;have nin:kx∉ks:=fun hm=>by
   obtain⟨i,hi,e⟩:=Fc.mp hm;have hi':i<es.size:=by have:=S.tup.len;simp at this;omega
   have hq:ks[i]? =some kx:=by rw[CJ hi,e]
   obtain⟨k,q1,q2⟩:=mem i hi' hq;exact hall k i q1 q2 hi' hq
  refine Cy<|ED S.at_ S.dat S.tab.fits ?_;dsimp only;have jle:(itM t.mask G<|t.probeStart<|tupleKeyHash knd kx).j<=t.mask:=xW (m:=t.mask) (h:=tupleKeyHash knd kx) G;obtain⟨p1,p2,p3⟩:=S.tab.put g2 jle g3;have led1:(t.put (itM t.mask G<|t.probeStart<|tupleKeyHash knd kx).j).1.led=t.led:=rfl;simp only[Ir];generalize hP:t.put (itM t.mask G<|t.probeStart<|tupleKeyHash knd kx).j=P at*
  obtain⟨t1,p⟩:=P;dsimp only at p1 p2 p3 led1;have hp:p<=es.size:=by simpa using p1
  have il:=jU es p (tupleKeyHash knd kx,D8 x);have T1:Tp t1 ((Eo es p (tupleKeyHash knd kx,D8 x)).toList.map (·.1)):=by
   rw[il,List.map_append,Dk,List.map_take,List.map_drop];exact p3
  have U1:TupsOf knd s.heap (Eo es p (tupleKeyHash knd kx,D8 x)).toList (ks.take p++kx::ks.drop p):=by
   have hlen:=S.tup.len;have hp2:p<=ks.length:=by simp at hlen;omega
   rw[il];refine⟨by simp[hlen],fun i e he=>?_⟩;have l1:(es.toList.take p).length=p:=by simp;omega
   have l2:(ks.take p).length=p:=by simp;omega
   by_cases z:i<p
   ·rw[Dq (by omega),F5 z]at he;obtain⟨k,b,q⟩:=S.tup.at_ i e he;exact⟨k,b,by rw[Dq (by omega),F5 z];exact q.1,q.2⟩
   ·rw[Dg (by omega),l1]at he;rw[Dg (by omega),l2];by_cases y:i=p
    ·rw[y,IU,EL]at he ⊢;cases he;exact⟨kx,x,rfl,rfl,hx,rfl⟩
    ·rw[show i- p=(i- p- 1)+1 by omega,Ep,Fn]at he ⊢;exact S.tup.at_ _ e he
  have pk:(ks.take p++kx::ks.drop p).Perm (kx::ks):=KL.trans (.cons kx (by rw[Jf]));have nd1:(ks.take p++kx::ks.drop p).Nodup:=pk.nodup_iff.mpr<|Ea.mpr ⟨nin,S.nd⟩;have room:=S.tab.room;have pl1:t1.plain=true:=by have:=S.pl;rw[<-this];have e:=congrArg (fun z:Eb×Nat=>z.1.plain) hP;exact e.symm
  rw[if_pos pl1];refine Cy<|uJ hI hx ?_;exact uK S.at_ S.ex S.dat T1 U1 nd1 (led1.trans S.led) pl1 (eI es hp _) (by omega) (by omega) (by rw[p2];simpa using room) fun h' ks' o' es' ep' t' a1 a2 a3 a4=>h2 nin h' ks' o' es' ep' t' a1 a2 (a3.trans pk) (a4.trans (by rw[il];exact KL.trans (.cons _ (by rw[Jf]))))
end
end Wb
namespace Wb
open PySem PySem.W PySem.Calls PyProof.Rows
theorem sl_next:Slot "set_iterator" "__next__" "set_iterator.__next__":=
 .of (owner:="set_iterator") (n:="__next__") (by rw[L8,Jg];kernel_rfl) (by decide +kernel) (by decide +kernel) (by decide +kernel)
  (by first|exact .inl (by decide +kernel)|exact .inr (by decide +kernel)) (by rw[Jw];kernel_rfl)
theorem qv:Slot "set_iterator" "__iter__" "set_iterator.__iter__":=
 .of (owner:="set_iterator") (n:="__iter__") (by rw[L8,Jg];kernel_rfl) (by decide +kernel) (by decide +kernel) (by decide +kernel)
  (by first|exact .inl (by decide +kernel)|exact .inr (by decide +kernel)) (by rw[Jw];kernel_rfl)
theorem qw:entryFor table "set_iterator.__next__"=some Fq.«set_iterator.__next__»:=entryFor_of_tree (by kernel_rfl)
theorem wM:entryFor table "set_iterator.__iter__"=some Fq.«dict_keyiterator.__iter__»:=Ll (id':="dict_keyiterator.__iter__") (by kernel_rfl) rfl (by decide +kernel) (by kernel_rfl)
theorem z9:entryFor table "set.__iter__"=some Fq.«frozenset.__iter__»:=Ll (id':="frozenset.__iter__") (by kernel_rfl) rfl (by decide +kernel) (by kernel_rfl)
theorem qx:Manifest.owners.lookup (String.ofList ['r','o','t','a','r','e','t','i','_','t','e','s'].reverse)=some Manifest.sig_set_iterator:=by kernel_rfl
theorem qy(a:CD):argsOk "set_iterator.__next__" ⟨[a],[]⟩:=by
 unfold argsOk;rw[J5 (id:="set_iterator.__next__") (n:=['_','_','t','x','e','n','_','_']) (o:=['r','o','t','a','r','e','t','i','_','t','e','s']) (by kernel_rfl) qx];kernel_rfl
theorem wN(a:CD):argsOk "set_iterator.__iter__" ⟨[a],[]⟩:=by
 unfold argsOk;rw[J5 (id:="set_iterator.__iter__") (n:=['_','_','r','e','t','i','_','_']) (o:=['r','o','t','a','r','e','t','i','_','t','e','s']) (by kernel_rfl) qx];kernel_rfl
theorem jV{α:Type}:∀(l:List α)(i:Nat)(h:i<l.length),(l[i]::l.eraseIdx i).Perm l
 |a::l,0,_=>.refl _
 |a::l,i+1,h=>by
  have h2:i<l.length:=by simpa using h
  exact(List.Perm.swap a l[i] (l.eraseIdx i)).trans (.cons a<|jV l i h2)
theorem lE{α:Type}(next:Nat->Nat):∀(fuel k:Nat)(left:List α)(out:Array α),fuel=left.length->(Kt next fuel k left out).toList.Perm (out.toList++left)
 |0,k,left,out,h=>by
  have:left=[]:=Gz.mp h.symm;subst this;unfold Kt;simp
 |fuel+1,k,left,out,h=>by
  unfold Kt;have hl:next k%left.length<left.length:=HH _ (by omega)
  rw[CJ hl];dsimp only;refine(lE next fuel (k+1) _ _ (by rw[List.length_eraseIdx];simp[hl];omega)).trans ?_;rw[Kr,FA];refine List.Perm.append_left _ ?_;exact jV left _ hl
def dq(w:D6)(a:Addr)(ep:Nat)(es:Array (Int×CD)):Array (Int×CD):=if w.params.followText "set-order"=true then pickOrder (w.params.setOrder a ep) es else es
theorem ib(w:D6)(a:Addr)(ep:Nat)(es:Array (Int×CD)):(dq w a ep es).toList.Perm es.toList:=by
 unfold dq;split
 ·have:=lE (w.params.setOrder a ep) es.size 0 es.toList #[] (by simp);simp only[Gr]at this;exact this
 ·exact .refl _
def bY(w:D6)(t:Eb)(i:Nat):Int:=if w.params.followText "set-order"=true then 0 else if i=0 then 0 else(t.place.getD (i-1) 0:Int)+1
theorem oW{w:D6}{t:Eb}{hs:List Int}(T:Tp t hs)(hb:¬w.params.followText "set-order"=true){i:Nat}(hi:i<=t.place.size):Ei t.place (bY w t i).toNat=i:=by
 obtain⟨b0,b1,b2⟩:=i8 T.up (bY w t i).toNat;generalize hB:Ei t.place (bY w t i).toNat=b at*
 have e:(bY w t i).toNat=if i=0 then 0 else t.place.getD (i-1) 0+1:=by
  unfold bY;rw[if_neg hb];split<;>omega
 rw[e]at b1 b2;by_cases z:i=0
 ·rw[if_pos z]at b1;by_cases y:b=0;·omega
  ·have:=b1 0 (by omega);omega
 ·rw[if_neg z]at b1 b2;by_cases y:b<i
  ·have:=b2 (i- 1) (by omega) (by omega);omega
  ·by_cases y2:i< b
   ·have h1:=b1 i y2;have h2:=T.up (i-1) i (by omega) (by omega);omega
   ·omega
def jW(w:D6)(a:Addr)(t:Eb)(n ep i:Nat):Obj:={cls:=.type "set_iterator",dict:=none,data:=.fields #[.int (bY w t i) 0,.int i 0,.ref a,.int n 0,.int ep 0],slots:= #[]}
section
variable{prog:CT}{w:D6}{A:Dr}{E:CD->CH->Prop}{s:CH}{a I:Addr}{o:Obj}{es:Array (Int×CD)}{ep:Nat}{t:Eb}
theorem nK{i:Nat}{Q:Option (CD×Nat)->CH->Prop}(ho:s.heap.get? a=some o)(hd:o.data=.set es ep t)(T:Tp t (es.toList.map (·.1)))(hf:t.fits es.size=true)(hl:t.led= !w.params.followText "set-order")(hp:t.plain=true)(hi:i<=es.size)
  (h:Q (((dq w a ep es)[i]?).map fun e=>(e.2,(bY w t<|i+1).toNat)) s):wpAny (model prog w) A (setNext a (bY w t i).toNat i ep) Q E s:=by
 have hsz:t.place.size=es.size:=by have:=T.sz;simpa using this
 unfold setNext;refine Cy<|ED ho hd hf ?_;dsimp only;unfold setsByText;refine Cy<|Cy<|FN<|CG ?_;show wpAny (model prog w) A (if w.params.followText "set-order"=true then _ else _) Q E s;by_cases z:w.params.followText "set-order"=true
 ·rw[if_pos z,if_neg (by simp)];unfold setWalk;refine Cy<|Cy<|ED ho hd hf ?_;dsimp only;unfold setsByText;refine Cy<|Cy<|FN<|CG ?_;show wpAny (model prog w) A (if w.params.followText "set-order"=true then _ else _) _ E s;rw[if_pos z];refine Cy<|FN<|CG<|CG ?_;unfold dq bY at h;rw[if_pos z,if_pos z]at h;unfold bY;rw[if_pos z];exact h
 ·rw[if_neg z];refine Hr (fun hab=>absurd hab (show ¬((!t.plain&&decide (es.size>1))=true) by rw[hp];simp))<|fun _=>?_;show wpAny _ _ ((if(!t.led&& !es.isEmpty)=true then unsupported _ else pure ())>>=_) _ _ _;rw[if_neg (by rw[hl];simp[z])];refine Cy<|CG ?_;rw[oW T z (by omega)];unfold dq at h;rw[if_neg z]at h;by_cases y:i<es.size
  ·have y2:i< t.place.size:=by omega
   rw[DC y]at h ⊢;rw[DC y2];have e:(bY w t<|i+1).toNat=t.place[i]+1:=by
    unfold bY;rw[if_neg z,if_neg (by omega),show i+1-1=i by omega];have:t.place.getD i 0=t.place[i]:=by simp[Fo,y2]
    omega
   simp only[G0,e]at h;exact CG h
  ·rw[FX (by omega)]at h ⊢;exact CG h
end
section
variable{prog:CT}{w:D6}{A:Dr}{E:CD->CH->Prop}{s:CH}{a I:Addr}{o:Obj}{es:Array (Int×CD)}{ep:Nat}{t:Eb}
theorem jX{n i:Nat}(h:s.heap.get? I=some (jW w a t n ep i)):s.TypeIs (.ref I) "set_iterator":=⟨_,h,rfl⟩
structure SetR(w:D6)(o:Obj)(es:Array (Int×CD))(ep:Nat)(t:Eb):Prop where
 ex:o.ExactSet
 dat:o.data=.set es ep t
 tab:Tb t (es.toList.map (·.1))
 led:t.led= !w.params.followText "set-order"
 pl:t.plain=true
theorem uL{Q:CD->CH->Prop}(R:SetR w o es ep t)(ho:s.heap.get? a=some o)(h:Q (.ref s.heap.objs.size) {s with heap:=s.heap.push (jW w a t es.size ep 0)}):wpAny (model prog w) A (pyIter<|.ref a) Q E s:=by
 have hT:s.TypeIs (.ref a) "set":=⟨o,ho,R.ex.1⟩
 refine GN hT L9<|Dy L9 hT z9 ?_<|F.args_set_iter_1 _;unfold Fq.«frozenset.__iter__»;refine Cy (m:=Ma _ _)<|CG ?_;unfold M0;refine Cy<|Cy<|Hx ho R.dat R.tab.fits<|CG ?_;unfold setDrawn;refine Cy<|Cy<|ED ho R.dat R.tab.fits ?_;dsimp only;unfold setsByText;refine Cy<|Cy<|FN<|CG<|CG ?_;refine Hr (fun hab=>absurd hab (show ¬((!w.params.followText "set-order"&&(!t.plain&&decide (es.size>1)))=true) by rw[R.pl];simp))<|fun _=>?_;refine Cy<|CG ?_;refine Cy<|wpAny_setEpoch_of ho R.dat R.tab.fits ?_;have e0:bY w t 0=0:=by unfold bY;split<;>rfl
 refine Cy<|DK<|CG ⟨_,rfl,"set_iterator",_,⟨_,CM _ rfl,rfl⟩,sl_next.lookup,?_⟩;unfold jW at h;rw[e0]at h;exact h
theorem rX{i:Nat}{Q:Option CD->CH->Prop}(R:SetR w o es ep t)(ho:s.heap.get? a=some o)(hne:a≠I)(hI:s.heap.get? I=some (jW w a t es.size ep i)){e:Int×CD}(he:(dq w a ep es)[i]? =some e)
  (h:∀h',h'.get? I=some (jW w a t es.size ep<|i+1)->D5 I s.heap h'->Q (some e.2) {s with heap:=h'}):wpAny (model prog w) A (pyNext<|.ref I) Q E s:=by
 have hsz:(dq w a ep es).size=es.size:=by have:=(ib w a ep es).length_eq;simpa using this
 have hi:i<es.size:=by have:=(E1.mp he).1;omega
 have hT:=jX hI;unfold pyNext;refine Cy (EF (DD (name:=CI "__next__") hT sl_next
  (Dy sl_next hT qw ?_ (qy _))))
 unfold Fq.«set_iterator.__next__»;refine Cy (m:=slotArgs _ _ _)<|CG ?_;refine Cy<|HK hI rfl ?_;dsimp only;refine Cy<|Hx ho R.dat R.tab.fits ?_;rw[if_neg (by simp)];show wpAny _ _ (setNext a (bY w t i).toNat ((i:Int).toNat) ((ep:Int).toNat)>>=_) _ _ _;rw[DY,DY];refine Cy (nK ho R.dat R.tab.toTp R.tab.fits R.led R.pl (by omega) ?_);rw[he];dsimp only[G0];refine Cy (Ed hI rfl (by simp) ?_);have hI1:=DS (DV (·.setIfInBounds 0 (rawInt ((bY w t<|i+1).toNat:Int)))) hI rfl;refine Cy (Ed hI1 rfl (by simp) ?_);have hI2:=DS (DV (·.setIfInBounds 1 (rawInt<|(i:Int)+1))) hI1 rfl;refine CG ⟨_,rfl,CG<|h _ (hI2.trans ?_)<|(E4 ..).trans (E4 ..)⟩;have e1:((bY w t<|i+1).toNat:Int)=bY w t (i+1):=by unfold bY;split<;>(try split)<;>omega
 rw[e1];rfl
theorem uM{Q:Option CD->CH->Prop}(hh:A.handled=none)(R:SetR w o es ep t)(ho:s.heap.get? a=some o)(hne:a≠I)(hI:s.heap.get? I=some (jW w a t es.size ep es.size))
  (h:∀h',F9 I s.heap h'->Q none {s with heap:=h'}):wpAny (model prog w) A (pyNext<|.ref I) Q E s:=by
 have hsz:(dq w a ep es).size=es.size:=by have:=(ib w a ep es).length_eq;simpa using this
 have hT:=jX hI;unfold pyNext;refine Cy (EF (DD (name:=CI "__next__") hT sl_next
  (Dy sl_next hT qw ?_ (qy _))))
 unfold Fq.«set_iterator.__next__»;refine Cy (m:=slotArgs _ _ _)<|CG ?_;refine Cy<|HK hI rfl ?_;dsimp only;refine Cy<|Hx ho R.dat R.tab.fits ?_;rw[if_neg (by simp)];show wpAny _ _ (setNext a (bY w t es.size).toNat ((es.size:Int).toNat) ((ep:Int).toNat)>>=_) _ _ _;rw[DY,DY];refine Cy (nK ho R.dat R.tab.toTp R.tab.fits R.led R.pl (by omega) ?_);rw[FX (by omega)];dsimp only[Option.map_none];refine Cy (Ed hI rfl (by simp) ?_);show wpAny _ _ (newExc (.type "StopIteration") []>>=_) _ _ _;refine Cy ?_;simp only[newExc,newTuple];refine Cy (DK ?_ (by size_fits));refine Cy (m:=firstArgMember _ _) (HY (a:=Df) (by first|rfl|(simp only[firstArgMember];rfl)) ?_);refine DK ?_ (by size_fits);simp only[raiseNew];refine Cy<|Ih ?_;rw[show A.in1.handled=none from hh];refine Cy<|CG<|Js ?_;refine Cy<|Ew (T:="StopIteration") (b:=true) ⟨_,CM _ rfl,rfl⟩ Fb ?_;exact CG<|h _<|((E4 ..).extBut.push _).push _
theorem Walks.setOf(hh:A.handled=none)(I a:Addr)(hne:a≠I)(R:SetR w o es ep t):
  Walks prog w A I [I,a] [I] es.size (fun i v=>∃e,(dq w a ep es)[i]? =some e/\v=e.2) (fun i h=>h.get? I=some (jW w a t es.size ep i)/\h.get? a=some o) where
 sub:=fun b hb=>by simp at hb;simp[hb]
 frame:=fun _ _ _ st hk=>⟨hk I (by simp) _ st.1,hk a (by simp) _ st.2⟩
 item:=fun i s Q E hi st hQ=>by
  have hsz:(dq w a ep es).size=es.size:=by have:=(ib w a ep es).length_eq;simpa using this
  have he:(dq w a ep es)[i]? =some (dq w a ep es)[i]:=DC (by omega);refine rX R st.2 hne st.1 he fun h' hI' hs'=>?_;exact hQ _ h' s.toks ⟨_,he,rfl⟩ ⟨hI',hs'.extBut a _ hne st.2⟩ fun b o hb e=>hs'.extBut b o (fun h=>hb (by simp[h])) e
 done:=fun s Q E st hQ=>uM hh R st.2 hne st.1 fun h' he'=>hQ h' s.toks fun b o hb e=>he' b o (fun h=>hb (by simp[h])) e
 self:=fun i s Q E st hQ=>by
  refine GN (jX st.1) qv<|Dy qv (jX st.1) wM ?_<|wN _;show wpAny _ _ (ret<|.ref I) _ _ s;exact CG ⟨_,rfl,"set_iterator",_,jX st.1,sl_next.lookup,hQ⟩
theorem uN{Q:Bool->CH->Prop}(hT:s.TypeIs (.ref a) "set")(h:Q false s):wpAny (model prog w) A (HB<|.ref a) Q E s:=by
 unfold HB;refine Cy<|Gm hT F.slot_set_len.lookup ?_;generalize hid:("set.__len__" :String)=id0
 wp_delta
 rw[show splitId id0=some ("set","__len__")from by subst hid;decide +kernel];subst hid;refine Cy (Ew (T:="set") (b:=true) hT (by rw[Jw];kernel_rfl) ?_);refine Hr (fun hab=>absurd hab (by decide))<|fun _=>?_;refine Hr (fun _=>?_) (fun hab=>absurd (by decide +kernel) hab);refine Cy<|wpAny_typeOf hT ?_;exact CG h
theorem wO(R:SetR w o es ep t):KdlSrc prog w "set" a a es.size (fun i v=>∃e,(dq w a ep es)[i]? =some e/\v=e.2) (fun h=>h.get? a=some o) where
 type:=fun _ hm=>⟨o,hm,R.ex.1⟩
 there:=fun _ hm=>⟨CP hm,CP hm⟩
 keep:=fun _ _ hm hk=>hk a (.inl rfl) o hm
 notList:=by decide
 notTuple:=by decide
 hint:=fun _ _ _ _ hm hq=>uN ⟨o,hm,R.ex.1⟩ hq
 iter:=fun _ _ hh hm=>⟨_,_,(fun _ _ hq=>uL R hm hq),Walks.setOf hh _ a (D0<|CP hm) R,⟨CM _ rfl,CB _ hm⟩⟩
end
def Good(n:Nat)(c:Nat->Nat->Bool){α:Type}:KasT α->(α->Prop)->Prop
 | .ret a,Q=>Q a
 | .ask i j k,Q=>i<n/\j<n/\Good n c (k<|c i j) Q
section
variable{n:Nat}{c:Nat->Nat->Bool}{α β:Type}
theorem Good.bind{f:α->KasT β}{Q:β->Prop}:∀(t:KasT α),Good n c t (fun a=>Good n c (f a) Q)->Good n c (t.bind f) Q
 | .ret _,h=>h
 | .ask i j k,h=>⟨h.1,h.2.1,Good.bind (k<|c i j) h.2.2⟩
theorem Good.imp{Q Q':α->Prop}(hq:∀a,Q a->Q' a):∀(t:KasT α),Good n c t Q->Good n c t Q'
 | .ret a,h=>hq a h
 | .ask i j k,h=>⟨h.1,h.2.1,Good.imp hq (k<|c i j) h.2.2⟩
theorem Good.wp{cmp:Nat->Nat->(Bool->CH->Prop)->CH->Prop}{s:CH}{Q:α->Prop}(hc:∀i j(C:Bool->CH->Prop),i<n->j<n->C (c i j) s->cmp i j C s):∀(t:KasT α),Good n c t Q->t.kasWp cmp (fun a s'=>s'=s/\Q a) s
 | .ret a,h=>⟨rfl,h⟩
 | .ask i j k,h=>hc i j _ h.1 h.2.1<|Good.wp hc (k<|c i j) h.2.2
structure OrdC(n:Nat)(c:Nat->Nat->Bool):Prop where
 tr:∀i j k,i<n->j<n->k<n->c i j=true->c j k=true->c i k=true
 tot:∀i j,i<n->j<n->i≠j->c i j=false->c j i=true
structure Pm(n:Nat)(p:Array Nat):Prop where
 pm:p.toList.Perm (DP n)
theorem Pm.sz{p:Array Nat}(h:Pm n p):p.size=n:=by have:=h.pm.length_eq;simpa using this
theorem ic{p:Array Nat}{a:Nat}(h:a<p.size):p.getD a 0=p.toList[a]'(by simpa using h):=by simp[Fo,h]
theorem Pm.lt{p:Array Nat}(h:Pm n p){a:Nat}(ha:a<n):p.getD a 0<n:=by
 have hs:=h.sz;rw[ic (by omega)];have:=h.pm.mem_iff.mp (FL (l:=p.toList) (n:=a) (by simp;omega));simpa using this
theorem Pm.inj{p:Array Nat}(h:Pm n p){a b:Nat}(ha:a<n)(hb:b<n)(hab:a≠b):p.getD a 0≠p.getD b 0:=by
 have hs:=h.sz;rw[ic (by omega),ic (by omega)];have nd:p.toList.Nodup:=h.pm.nodup_iff.mpr List.nodup_range;have pw:=Fu.mp<|Eu.mp nd;rcases Ka hab with z|z
 ·exact pw a b _ _ z
 ·exact fun e=>pw b a _ _ z e.symm
def wQ(c:Nat->Nat->Bool)(p:Array Nat)(m:Nat):Prop:=∀a b,a<b->b<m->c (p.getD a 0) (p.getD b 0)=true
def BL(c:Nat->Nat->Bool)(p:Array Nat)(m:Nat):Prop:=∀a b,a<b->b<m->c (p.getD b 0) (p.getD a 0)=true
variable{p:Array Nat}
theorem oX(O:OrdC n c)(P:Pm n p):∀(f m:Nat),1<=m->m+f=n->wQ c p m->Good n c (kas_asc p f m) fun m'=>m<=m'/\m'<=n/\wQ c p m'/\(m'=n\/(m'<n/\c (p.getD m' 0) (p.getD (m'-1) 0)=true))
 |0,m,h1,h2,u=>⟨CU _,by omega,u,.inl (by omega)⟩
 |f+1,m,h1,h2,u=>by
  refine⟨P.lt (by omega),P.lt (by omega),?_⟩;cases hc:c (p.getD m 0) (p.getD (m-1) 0)with
  |true=>exact⟨CU _,by omega,u,.inr ⟨by omega,hc⟩⟩
  |false=>
   have q:=O.tot _ _ (P.lt (a:=m) (by omega)) (P.lt (a:=m-1) (by omega)) (P.inj (by omega) (by omega) (by omega)) hc;refine Good.imp (fun m' h=>⟨by omega,h.2⟩) _ (oX O P f (m+1) (by omega) (by omega) fun a b hab hb=>?_);by_cases z:b<m;·exact u a b hab z
   ·have:b=m:=by omega
    subst this;by_cases y:a=b-1;·rw[y];exact q
    ·exact O.tr _ _ _ (P.lt (by omega)) (P.lt (by omega)) (P.lt (by omega)) (u a (b-1) (by omega) (by omega)) q
theorem qz(O:OrdC n c)(P:Pm n p):∀(f m:Nat),2<=m->m+f=n->BL c p m->Good n c (kas_desc f p m 0) fun r=>r.1=p/\r.2.2=0/\2<=r.2.1/\r.2.1<=n/\BL c p r.2.1
 |0,m,h1,h2,u=>⟨rfl,rfl,h1,by show m<=n;omega,u⟩
 |f+1,m,h1,h2,u=>by
  refine⟨P.lt (by omega),P.lt (by omega),?_⟩;cases hc:c (p.getD m 0) (p.getD (m-1) 0)with
  |true=>
   refine qz O P f (m+1) (by omega) (by omega) fun a b hab hb=>?_;by_cases z:b<m;·exact u a b hab z
   ·have:b=m:=by omega
    subst this;by_cases y:a=b-1;·rw[y];exact hc
    ·exact O.tr _ _ _ (P.lt (by omega)) (P.lt (by omega)) (P.lt (by omega)) hc (u a (b-1) (by omega) (by omega))
  |false=>
   have q:=O.tot _ _ (P.lt (a:=m) (by omega)) (P.lt (a:=m-1) (by omega)) (P.inj (by omega) (by omega) (by omega)) hc;refine⟨P.lt (by omega),P.lt (by omega),?_⟩;rw[q];exact⟨rfl,rfl,h1,by show m<=n;omega,u⟩
theorem Pm.of(P:Pm n p){q:Array Nat}(h:q.Perm p):Pm n q:=⟨(Array.perm_iff_toList_perm.mp h).trans P.pm⟩
theorem uO(P:Pm n p){m:Nat}(hm:m<=n)(k:Nat):(Mf p 0 m).getD k 0=if k<m then p.getD (m-1-k) 0 else p.getD k 0:=by
 have hs:=P.sz;unfold Mf;rw[Dx,getElem?_mirror_all (by omega)];by_cases z:k<m
 ·rw[if_pos ⟨by omega,z⟩,if_pos z,Dx];congr 2;omega
 ·rw[if_neg (by omega),if_neg z,Dx]
theorem uP(O:OrdC n c)(P:Pm n p)(h1:1<=n):Good n c (kas_count n p) fun r=>Pm n r.2/\1<=r.1/\r.1<=n/\wQ c r.2 r.1:=by
 unfold kas_count;refine Good.bind _ (Good.imp (fun m h=>?_) _ (oX O P (n-1) 1 (by omega) (by omega) fun a b hab hb=>by omega));obtain⟨q1,q2,q3,q4⟩:=h;by_cases z:m=n;·rw[if_pos (by simp[z])];exact⟨P,q1,q2,q3⟩
 ·rw[if_neg (by simp[z])];by_cases y:m>1
  ·rw[if_pos y];refine⟨P.lt (by omega),P.lt (by omega),?_⟩;rw[q3 0 (m-1) (by omega) (by omega)];exact⟨P,q1,q2,q3⟩
  ·rw[if_neg y];have:m=1:=by omega
   subst this;have q5:c (p.getD 1 0) (p.getD 0 0)=true:=by rcases q4 with q4|q4;exact absurd q4 z;exact q4.2
   unfold kas_descPart;refine Good.bind _ (Good.imp (fun r h=>?_) _ (qz O P (n-(1+1)) 2 (by omega) (by omega) fun a b hab hb=>?_))
   ·obtain⟨r,k,q⟩:=r;obtain⟨e1,e2,e3,e4,e5⟩:=h;dsimp only at e1 e2 e3 e4 e5 ⊢;subst e1 e2;rw[if_neg (by omega)];unfold kas_tail3;have P2:Pm n (Mf r 0 k):=P.of<|mirror_perm _ _ _ _;have U2:wQ c (Mf r 0 k) k:=fun a b hab hb=>by
     rw[uO P e4,uO P e4,if_pos (by omega),if_pos hb];exact e5 _ _ (by omega) (by omega)
    refine Good.bind _ (Good.imp (fun m h=>?_) _ (oX O P2 (n-k) k (by omega) (by omega) U2));exact⟨P2,by show 1<=m;omega,h.2.1,h.2.2.1⟩
   ·have:a=0/\b=1:=by omega
    rw[this.1,this.2];exact q5
theorem jY(O:OrdC n c)(P:Pm n p){k:Nat}(hk:k<n)(u:wQ c p k):∀(f l r:Nat),l<=r->r<=k->r-l<=f->(∀a,a<l->c (p.getD a 0) (p.getD k 0)=true)->(∀a,r<=a->a<k->c (p.getD k 0) (p.getD a 0)=true)->
  Good n c (kas_place p k f l r) fun l=>l<=k/\(∀a,a<l->c (p.getD a 0) (p.getD k 0)=true)/\(∀a,l<=a->a<k->c (p.getD k 0) (p.getD a 0)=true)
 |0,l,r,h1,h2,h3,lo,hi=>by
  have:l=r:=by omega
  subst this;exact⟨h2,lo,hi⟩
 |f+1,l,r,h1,h2,h3,lo,hi=>by
  unfold kas_place;by_cases z:l≥r
  ·rw[if_pos z];have:l=r:=by omega
   subst this;exact⟨h2,lo,hi⟩
  ·rw[if_neg z];refine⟨P.lt hk,P.lt (by omega),?_⟩;cases hc:c (p.getD k 0) (p.getD ((l+r)/2) 0)with
   |true=>
    refine jY O P hk u f l ((l+r)/2) (by omega) (by omega) (by omega) lo fun a h4 h5=>?_;by_cases y:a=(l+r)/2;·rw[y];exact hc
    ·exact O.tr _ _ _ (P.lt hk) (P.lt (by omega)) (P.lt (by omega)) hc (u _ _ (by omega) h5)
   |false=>
    have q:=O.tot _ _ (P.lt hk) (P.lt (a:=(l+r)/2) (by omega)) (P.inj hk (by omega) (by omega)) hc;refine jY O P hk u f ((l+r)/2+1) r (by omega) (by omega) (by omega) (fun a h4=>?_) hi;by_cases y:a=(l+r)/2;·rw[y];exact q
    ·exact O.tr _ _ _ (P.lt (by omega)) (P.lt (by omega)) (P.lt hk) (u _ _ (by omega) (by omega)) q
theorem uQ(O:OrdC n c):∀(f k:Nat)(p:Array Nat),Pm n p->k+f=n->wQ c p k->Good n c (kas_bin f p k) fun p'=>Pm n p'/\wQ c p' n
 |0,k,p,P,h,u=>⟨P,by rw[<-h];exact u⟩
 |f+1,k,p,P,h,u=>by
  refine Good.bind _ (Good.imp (fun l hl=>?_) _ (jY O P (by omega) u k 0 k (by omega) (by omega) (by omega) (fun a ha=>by omega) fun a h1 h2=>by omega));obtain⟨l1,l2,l3⟩:=hl;have hs:=P.sz;have at_:∀x,(bubble p k<|k-l).getD x 0=if x=l then p.getD k 0 else if l<x/\x<=k then p.getD (x-1) 0 else p.getD x 0:=fun x=>by
   rw[Dx,getElem?_bubble (by omega) _ (by omega),show k-(k-l)=l by omega];split;·rw[Dx]
   ·split<;>rw[Dx]
  refine uQ O f (k+1) _ (P.of<|bubble_perm _ _ _) (by omega) fun a b hab hb=>?_;rw[at_,at_];by_cases z1:a=l
  ·rw[if_pos z1,if_neg (by omega),if_pos (by omega)];exact l3 _ (by omega) (by omega)
  ·rw[if_neg z1];by_cases z2:b=l
   ·rw[if_pos z2,if_neg (by omega)];exact l2 _ (by omega)
   ·rw[if_neg z2];by_cases z3:l<a/\a<=k
    ·rw[if_pos z3,if_pos (by omega)];exact u _ _ (by omega) (by omega)
    ·rw[if_neg z3];by_cases z4:l<b/\b<=k
     ·rw[if_pos z4];exact u _ _ (by omega) (by omega)
     ·rw[if_neg z4];exact u _ _ (by omega) (by omega)
theorem wR(O:OrdC n c)(h1:1<=n):Good n c (kas_sort n) fun p=>Pm n p/\wQ c p n:=by
 unfold kas_sort;refine Good.bind _<|Good.imp (fun r h=>?_) _<|uP O (p:=List.toArray<|DP n) ⟨.refl _⟩ h1;obtain⟨q1,q2,q3,q4⟩:=h;by_cases z:r.1<n
 ·rw[if_pos z,show max r.1 1=r.1 by omega];exact uQ O _ _ _ q1 (by omega) q4
 ·rw[if_neg z];have:r.1=n:=by omega
  exact⟨q1,by rw[<-this];exact q4⟩
end
def PairAt(h:Heap)(v:CD)(k:Int×Int):Prop:=∃b o t1 t2 n,v=.ref b/\h.get? b=some o/\o.cls=.type "tuple"/\o.data=.seq #[.int k.1 t1,.int k.2 t2] n
def mL(a b:Int×Int):Bool:=decide (a.1<b.1)||(decide (a.1=b.1)&&decide (a.2<b.2))
theorem je{a b:Int×Int}:mL a b=true↔a.1<b.1\/(a.1=b.1/\a.2<b.2):=by unfold mL;simp
theorem za{a b c:Int×Int}(h:mL a b=true)(h':mL b c=true):mL a c=true:=by rw[je]at *;omega
theorem wU{a b:Int×Int}(hn:a≠b)(h:mL a b=false):mL b a=true:=by
 have h2:¬mL a b=true:=by rw[h];decide
 rw[je]at h2;rw[je];by_cases z:a.1=b.1
 ·have:a.2≠b.2:=fun e=>hn<|IB z e;omega
 ·omega
theorem wV(a:Int×Int):mL a a=false:=by unfold mL;simp
structure PairsAt(h:Heap)(vs:List CD)(ks:List (Int×Int)):Prop where
 len:vs.length=ks.length
 at_:∀(i:Nat)(v:CD),vs[i]? =some v->∃k,ks[i]? =some k/\PairAt h v k
theorem PairsAt.get{h:Heap}{vs:List CD}{ks:List (Int×Int)}(P:PairsAt h vs ks){i:Nat}(hi:i<vs.length):PairAt h (vs.getD i .none) (ks.getD i (0,0)):=by
 obtain⟨k,h1,h2⟩:=P.at_ i vs[i] (CJ hi);rw[Dj,Dj,CJ hi,h1];exact h2
theorem PairsAt.keep{h h':Heap}{vs:List CD}{ks:List (Int×Int)}(P:PairsAt h vs ks)(hk:∀b o,o.cls=.type "tuple"->h.get? b=some o->h'.get? b=some o):PairsAt h' vs ks:=
 ⟨P.len,fun i v e=>let ⟨k,q1,b,o,t1,t2,n,q2,q3,q4,q5⟩:=P.at_ i v e;⟨k,q1,b,o,t1,t2,n,q2,hk b o q4 q3,q4,q5⟩⟩
section
variable{prog:CT}{w:D6}{A:Dr}{E:CD->CH->Prop}{s:CH}
theorem wW{x y:CD}{k l:Int×Int}{Q:Bool->CH->Prop}(hx:PairAt s.heap x k)(hy:PairAt s.heap y l)(h:Q (mL k l) s):wpAny (model prog w) A (keyLt' (tuples' true) x y) Q E s:=by
 obtain⟨bx,ox,t1,t2,n,rfl,hx,_,dx⟩:=hx;obtain⟨by_,oy,u1,u2,m,rfl,hy,_,dy⟩:=hy;refine kat_lt hx dx hy dy<|kat_cons<|Iq<|kat_go (fun e=>kat_yes<|kat_cons<|Iq<|kat_go (fun e'=>kat_yes<|kat_nil ?_) fun e'=>kat_no<|kat_one _ _<|lt_int ?_) fun e=>kat_no<|oneLt_int ?_
 ·have e1:k.1=l.1:=by simpa using e
  have e2:k.2=l.2:=by simpa using e'
  have:k=l:=IB e1 e2;subst this;rw[wV]at h;simpa using h
 ·have e1:k.1=l.1:=by simpa using e
  show Q (decide<|k.2<l.2) s;unfold mL at h;simpa [e1] using h
 ·have e1:¬k.1=l.1:=by simpa using e
  unfold mL at h;simpa [e1] using h
theorem qF{h:Heap}:∀{vs:List CD}{ks:List (Int×Int)},PairsAt h vs ks->∃fs,fs.length=vs.length/\KatTups h vs fs/\∀f∈fs,∃i t,f=Ip i t
 | [],ks,P=>⟨[],rfl,trivial,fun f hf=>by cases hf⟩
 |v::vs,ks,P=>by
  obtain⟨k,q1,b,o,t1,t2,n,rfl,q3,q4,q5⟩:=P.at_ 0 v rfl;obtain⟨fs,l1,l2,l3⟩:=qF (h:=h) (vs:=vs) (ks:=ks.drop 1) ⟨by have:=P.len;simp at this ⊢;omega,fun i v e=>by
   obtain⟨k,a1,a2⟩:=P.at_ (i+1) v (by simpa using e);exact⟨k,by rw[Fn,Nat.add_comm];exact a1,a2⟩⟩
  refine⟨.int k.1 t1::fs,by simp[l1],.cons q3 q4 q5 (by simp) l2,fun f hf=>?_⟩;rcases CW.mp hf with rfl|hf
  ·exact⟨_,_,rfl⟩
  ·exact l3 f hf
theorem oY{a:Addr}{vs:List CD}{ks:List (Int×Int)}{n:Nat}{P:N3->CH->Prop}(ho:s.heap.get? a=some (seqObj "list" vs.toArray n))(hp:PairsAt s.heap vs ks)(nd:ks.Nodup)(h64:vs.length<64)
  (h:∀p:List Nat,p.Perm (DP vs.length)->(p.map fun i=>ks.getD i (0,0)).Pairwise (fun x y=>mL x y=true)->P (.done<|.ret .none) {s with heap:=sortedHeap s.heap a vs (p.map fun i=>vs.getD i Df).toArray}):
  wpAny (model prog w) A (Fq.«list.sort» ⟨[.ref a],[]⟩) P E s:=by
 rw[list_sort_plain];have ha:a<s.heap.objs.size:=CP ho;refine Cy<|listItems_at ho rfl ?_;refine Cy<|JL ho rfl ?_;obtain⟨e1,ho1⟩:∃e1,(s.heap.update a<|Fg fun _=> #[]).get? a=some (seqObj "list" #[] e1):=⟨_,get?_update_seq ho<|fun _=> #[]⟩
 refine Cy<|KW ho1 rfl ?_;refine Cy<|Jt ?_;refine Cy<|M1 ?_;refine DQ ?_;have ho6:(((s.heap.update a<|Fg fun _=> #[]).push (seqObj "tuple" vs.toArray 0)).push (seqObj "list" #[] 0)).get? a=some (seqObj "list" #[] e1):=by
  rw[Ku _ _ _ (by rw[size_push',Iy];exact D0<|GJ ha),Ku _ _ _ (by rw[Iy];exact D0 ha)];exact ho1
 show wpAny (model prog w) A _ P E {s with heap:=((s.heap.update a<|Fg fun _=> #[]).push (seqObj "tuple" vs.toArray 0)).push (seqObj "list" #[] 0)};dsimp only;have hsz:vs.toArray.size=vs.length:=by simp
 have hl:vs.length<=sizeLine:=by rw[E6];omega
 by_cases h2:vs.toArray.size<2
 ·rw[if_pos h2,if_pos h2];refine Cy<|CG ?_;rw[StateT.run_pure];refine Cy<|CG ?_;dsimp only;refine Cy<|KW ho6 rfl ?_;refine Cy (JL ho6 rfl ?_ (hsz2:=by rw[Array.size_map];show(pairsOf vs).size<=_;rw[pairsOf_size,E6];omega));simp only[bne_self_eq_false,Dm,if_false];have:=h (DP vs.length) (.refl _) (by
   have h3:vs.length=0\/vs.length=1:=by omega
   rcases h3 with h3|h3<;>rw[h3];·exact Fz
   ·exact List.pairwise_singleton _ _)
  refine CG ?_;have e:(arrOf<|SortSt.mk' general' (vs.toArray.zip vs.toArray) #[] 7 none).map (·.2)=((DP vs.length).map fun i=>vs.getD i Df).toArray:=by
   rw[iJ];show(vs.toArray.zip vs.toArray).map (·.2)=_;apply Array.toList_inj.mp;simp only[KJ,Array.toList_zip,List.map_snd_zip,CU]
  rw[e];exact this
 ·rw[if_neg h2,if_neg h2];obtain⟨fs,l1,l2,l3⟩:=qF (hp.keep (h':=((s.heap.update a<|Fg fun _=> #[]).push (seqObj "tuple" vs.toArray 0)).push (seqObj "list" #[] 0)) fun b o hc e=>by
   have hb:b≠a:=fun z=>by subst z;rw[ho]at e;cases e;exact absurd hc (by show ¬(G6 "list"=G6 "tuple");decide)
   exact CB _ (CB _ ((Du _ _ (F3 hb)).trans e)))
  have hp2:=hp.keep (h':=((s.heap.update a<|Fg fun _=> #[]).push (seqObj "tuple" vs.toArray 0)).push (seqObj "list" #[] 0)) fun b o hc e=>by
   have hb:b≠a:=fun z=>by subst z;rw[ho]at e;cases e;exact absurd hc (by show ¬(G6 "list"=G6 "tuple");decide)
   exact CB _<|CB _<|(Du _ _<|F3 hb).trans e
  refine Cy (kat_kind (T:=.type "int") l2 (by rw[l1];omega) (fun v hv=>?_) (by decide) ?_)
  ·obtain⟨i,t,rfl⟩:=l3 v hv;exact .now
  rw[show(G6 "int" != G6 "tuple")=true from by decide];have inj:∀i j,i<vs.length->j<vs.length->ks.getD i (0,0)=ks.getD j (0,0)->i=j:=fun i j hi hj e=>by
   have lk:=hp.len;have pw:=Fu.mp<|Eu.mp nd;have ei:ks.getD i (0,0)=ks[i]'(by omega):=by simp[Dj,show i<ks.length by omega]
   have ej:ks.getD j (0,0)=ks[j]'(by omega):=by simp[Dj,show j<ks.length by omega]
   rw[ei,ej]at e;by_cases z:i=j;·exact z
   ·rcases Ka z with z | z;·exact absurd e<|pw i j _ _ z
    ·exact absurd e.symm<|pw j i _ _ z
  have O:OrdC vs.length fun i j=>mL (ks.getD i (0,0)) (ks.getD j (0,0)):=⟨fun i j k _ _ _ x y=>za x y,fun i j hi hj hij x=>wU (fun e=>hij<|inj i j hi hj e) x⟩
  have run:=Good.wp (s:={s with heap:=((s.heap.update a<|Fg fun _=> #[]).push (seqObj "tuple" vs.toArray 0)).push (seqObj "list" #[] 0)}) (cmp:=kas_ask prog w A (tuples' true) vs) (fun i j C hi hj hC=>wW (hp2.get hi) (hp2.get hj) hC) _ (wR O (by omega));refine Cy (DW (kat_run (Q:=fun st' s'=>∃p:Array Nat,p.size=vs.length/\arrOf st'=p.map (kas_item<|vs.toArray.zip vs.toArray)/\failedOf st'=none/\s'={s with heap:=((s.heap.update a<|Fg fun _=> #[]).push (seqObj "tuple" vs.toArray 0)).push (seqObj "list" #[] 0)}/\Pm vs.length p/\wQ (fun i j=>mL (ks.getD i (0,0))<|ks.getD j (0,0)) p vs.length)
   rfl (by omega) h64 (fun p' st' s' a1 a2 a3 a4=>⟨p',a1,a2,a3,a4⟩) run) ?_ fun _ _ e=>e)
  rintro ⟨⟨⟩,st'⟩ s' ⟨p,hps,har,hf,rfl,P1,U1⟩;dsimp only;have hout:=kat_snds rfl har;rw[hout];refine Cy<|KW ho6 rfl ?_;refine Cy (JL ho6 rfl ?_ (hsz2:=by rw[CY,Dc,Em,hps];exact Nat.le_succ_of_le hl));rw[hf];simp only[bne_self_eq_false,Dm,if_false];refine CG<|h p.toList P1.pm ?_;rw[GL,Fu];intro i j hi hj hij;have:=U1 i j hij (by simpa [hps] using hj)
  rwa [ic (by simpa using hi),ic (by simpa using hj)]at this
end
end Wb
namespace Wb
open PySem PySem.W PyProof.Rows
section
variable{prog:CT}{w:D6}{A:Dr}{E:CD->CH->Prop}{s:CH}
theorem uR{a:Addr}{vs:List CD}{key:CD->Int×Int}{n:Nat}{P:N3->CH->Prop}(ho:s.heap.get? a=some (seqObj "list" vs.toArray n))(hp:∀v∈vs,PairAt s.heap v<|key v)(nd:(vs.map key).Nodup)(hl:vs.length<=63)
  (h:∀out:List CD,out.Perm vs->(out.map key).Pairwise (fun x y=>mL x y=true)->P (.done<|.ret .none) {s with heap:=sortedHeap s.heap a vs out.toArray}):
  wpAny (model prog w) A (Fq.«list.sort» ⟨[.ref a],[]⟩) P E s:=by
 refine oY (ks:=vs.map key) ho ⟨by rw[Dc],fun i v hv=>⟨key v,by rw[CQ,hv];rfl,hp v<|Dh hv⟩⟩ nd (by omega) fun p pm pw=>h _ ?_ ?_
 ·have:=pm.map fun i=>vs.getD i Df;have e:(DP vs.length).map (fun i=>vs.getD i Df)=vs:=by
   refine EW fun i=>?_;rw[CQ];by_cases z:i<vs.length
   ·rw[F0 z,CJ z];show some (vs.getD i Df)=_;rw[Dj,CJ z];rfl
   ·rw[E3 (by simp;omega),E3 (by omega)];rfl
  rw[e]at this;exact this
 ·rw[F6];have e:p.map (key∘fun i=>vs.getD i Df)=p.map fun i=>(vs.map key).getD i (0,0):=Hu fun i hi=>by
   have z:i<vs.length:=by have:=pm.mem_iff.mp hi;simpa using this
   show key (vs.getD i Df)=_;rw[Dj,Dj,CQ,CJ z];rfl
  rw[e];exact pw
end
end Wb
namespace Wb
open PySem PySem.W PySem.Calls PyProof.Rows
section
variable{prog:CT}{w:D6}{K:Type}[DecidableEq K]{knd:KeyKind prog w K}{A:Dr}{E:CD->CH->Prop}{s:CH}
theorem rY{a x:Addr}{o:Obj}{es:Array (Int×CD)}{ep:Nat}{t:Eb}{led:Bool}{ks:List (List K)}{kx:List K}(hu:A.units+1<cLine)(S:SetT knd s.heap a led ks o es ep t)(hn:es.size<1000)(hx:Fp knd s.heap kx x)(hI:∀k∈kx,∀v,knd.is k v=true->∃i t,v=.int i t){Q:CD->CH->Prop}
  (h1:kx∈ks->∀tk,Q .none {s with toks:=tk}) (h2:kx∉ks->∀tk h' ks' o' es' ep' t',D5 a s.heap h'->SetT knd h' a led ks' o' es' ep' t'->ks'.Perm (kx::ks)->es'.toList.Perm ((tupleKeyHash knd kx,.ref x)::es.toList)->Q .none {s with heap:=h',toks:=tk}):
  wpAny (model prog w) A (call (.builtin "set.add") [.ref a,.ref x]) Q E s:=by
 have hT:s.TypeIs (.ref a) "set":=⟨o,S.at_,S.ex.1⟩
 refine Dy F.slot_set_add hT F.entry_set_add ?_<|F.args_set_add_2 _ _;unfold Fq.«set.add» Lm;simp only[List.isEmpty_nil,bind_assoc];unfold M3 setAdd;refine Cy<|CG ?_
 try dsimp only
 refine Cy<|CG ?_
 try dsimp only
 refine Cy ?_;refine DQ ?_;refine Cy (wpAny_pyHash_tuple (show A.in1.units<cLine from hu) hx ?_);unfold setAddHashed;refine DQ (wL (s:={s with toks:=s.toks+(kx.length+1)}) (show A.in1.units<cLine from hu) S hn hx hI (fun hm=>?_) fun hm h' ks' o' es' ep' t' a1 a2 a3 a4=>?_)
 ·show wpAny _ _ (ret Df) _ _ _;exact CG ⟨_,rfl,h1 hm _⟩
 ·show wpAny _ _ (ret Df) _ _ _;exact CG ⟨_,rfl,h2 hm _ h' ks' o' es' ep' t' a1 a2 a3 a4⟩
end
end Wb
namespace L2
open PySem PySem.Spec PyProof.Rows Wb
structure TupsH(prog:CT)(w:D6)(K:CF)(H:Hp)(es:List (Int×CD))(ks:List (Int×Int)):Prop where
 len:es.length=ks.length
 at_:∀(i:Nat)(e:Int×CD),es[i]? =some e->∃k b,ks[i]? =some k/\e.2=.ref b/\SqT K H b [.int k.1,.int k.2]/\e.1=tupleKeyHash (mixKind prog w) [.inl k.1,.inl k.2]
def SetH(prog:CT)(w:D6)(K:CF)(H:Hp)(o:Obj)(ks:List (Int×Int)):Prop:=∃es ep t,SetR w o es ep t/\TupsH prog w K H es.toList ks/\ks.Nodup
def iT(k:Int×Int):List Key:=[.inl k.1,.inl k.2]
theorem jf{a b:Int×Int}(h:iT a=iT b):a=b:=by
 unfold iT at h;injection h with h1 h2;injection h2 with h2 _;injection h1 with h1;injection h2 with h2;exact IB h1 h2
def rZ:List Key->Int×Int
 | [.inl a,.inl b]=>(a,b)
 |_=>(0,0)
theorem qG(k:Int×Int):rZ (iT k)=k:=rfl
noncomputable def xY(elt:Expr)(env:Env)(acc:CD):Sem Unit:=do
 let v <-eval elt env
 standAt elt.pos
 let _ <-call (.builtin "set.add") [acc,v]
def oZ(prog:CT)(w:D6)(K:CF)(te:TE):TB:=fun D σ H N=>te σ H fun y H'=>∃G o ks b k,Same G H'/\H' D=some (XO D o)/\SetH prog w K G o ks/\ks.length<1000/\y=.ref b/\SqT K G b [.int k.1,.int k.2]/\(k∈ks->N H')/\(k∉ks->∀o' ks',SetH prog w K G o' ks'->ks'.Perm (k::ks)->N (cI H' D<|XO D o'))
section
variable{Y X:Cx}{elt:Expr}{te:TE}
theorem fE{pins:List (Addr×Obj)}{σ:St}{H:Hp}{s:CH}{b:Addr}{k:Int×Int}(I:Inv X pins σ H s)(h:SqT X.K H b [.int k.1,.int k.2]):Fp (mixKind X.prog X.w) s.heap (iT k) b:=by
 obtain⟨its,r,⟨o,h1,h2,n,h3⟩,_⟩:=I.tuple h;exact⟨o,its.toArray,n,h1,h2,h3,by simpa using la (ks:=iT k) r⟩
theorem BG{k:Int×Int}:∀q∈iT k,∀v,(mixKind X.prog X.w).is q v=true->∃i t,v=.int i t:=fun q hq v hv=>by
 have:q=.inl k.1\/q=.inl k.2:=by simpa [iT] using hq
 rcases bN (show fT q v=true from hv)with⟨i,t,e1,rfl⟩|⟨x,t,e1,rfl⟩
 ·exact⟨i,t,rfl⟩
 ·rcases this with z|z<;>(rw[z]at e1;cases e1)
theorem zb(hxe:Y.xe=fun _ _=>False)(hu:Y.A.units+1<cLine)(he:PE Y elt te):PB Y (xY elt Y.env) (oZ Y.prog Y.w Y.K te):=by
 intro D pins s σ H N I h;have he':=he pins s σ H _ I h;rw[hxe]at he';refine Cy<|bF he' fun u s1 zz=>?_;obtain⟨y,H1,I1,r1,G,o,ks,b,k,eG,hD,hS,hl,ey,hb,h1,h2⟩:=zz;subst ey;obtain rfl:u=.ref b:=r1;refine Cy<|F4 ?_;obtain⟨es,ep,t,R,T,nd⟩:=hS;have hDo:s1.heap.get? D=some o:=(I1.hok D _ hD).1;have hsz:es.size=ks.length:=by have:=T.len;simpa using this
 have U:TupsOf (mixKind Y.prog Y.w) s1.heap es.toList (ks.map iT):=⟨by rw[Dc];exact T.len,fun i e hi=>by
  obtain⟨k,b,q1,q2,q3,q4⟩:=T.at_ i e hi;exact⟨iT k,b,by rw[CQ,q1];rfl,q2,fE I1 (EA eG q3),q4⟩⟩
 have S:SetT (mixKind Y.prog Y.w) s1.heap D (!Y.w.params.followText "set-order") (ks.map iT) o es ep t:=⟨hDo,R.ex,R.dat,R.tab,U,MY _ (fun a b hab e=>hab<|jf e) nd,R.led,R.pl⟩
 refine Cy (rY hu S (by omega) (fE I1<|EA eG hb) BG (fun hm tk=>?_) fun hm tk h' ks' o' es' ep' t' a1 a2 a3 a4=>?_)
 ·obtain⟨k',m1,m2⟩:=DU.mp hm;cases jf m2;exact CG ⟨σ,H1,I1.kept<|fun _ _ z=>z,fun _ _ e=>e,h1 m1⟩
 ·have nm:k∉ks:=fun z=>hm<|DU.mpr ⟨k,z,rfl⟩;have pk:(ks'.map rZ).Perm (k::ks):=by
   have:=a3.map rZ;rw[Dk,F6,show(rZ∘iT)=id from funext qG,Mz,qG]at this;exact this
  have TH:TupsH Y.prog Y.w Y.K G es'.toList (ks'.map rZ):=⟨by rw[Dc];exact a2.tup.len,fun i e hi=>by
   obtain⟨kk,b',q1,q2,q3,q4⟩:=a2.tup.at_ i e hi;have src:∃k0:Int×Int,SqT Y.K G b' [.int k0.1,.int k0.2]:=by
    rcases CW.mp (a4.mem_iff.mp<|Dh hi)with z|z;·rw[z]at q2;cases q2;exact⟨k,hb⟩
    ·obtain⟨j,hj,ej⟩:=Fc.mp z;obtain⟨k0,b0,r1,r2,r3,r4⟩:=T.at_ j e (by rw[CJ hj,ej]);rw[r2]at q2;cases q2;exact⟨k0,r3⟩
   obtain⟨k0,hk0⟩:=src;have e0:kk=iT k0:=q3.inj (nJ (fE I1 (EA eG hk0)) hDo R.dat a1);subst e0;exact⟨k0,b',by rw[CQ,q1];rfl,q2,hk0,q4⟩⟩
  refine CG ⟨σ,_,?_,fun _ _ e=>e,h2 nm o' (ks'.map rZ) ⟨es',ep',t',⟨a2.ex,a2.dat,a2.tab,a2.led,a2.pl⟩,TH,pk.nodup_iff.mpr<|Ea.mpr ⟨nm,nd⟩⟩ pk⟩;exact I1.write (x:=D) (e:=D) (by rw[hD];exact G8) (.inl rfl) (fun b u hb' z=>(a1.2 b hb').trans z) ⟨o',a2.at_⟩<|Nb a2.at_
theorem uS{pins:List (Addr×Obj)}{σ:St}{H:Hp}{s:CH}{b:Addr}{k l:Int×Int}(I:Inv X pins σ H s)(h:SqT X.K H b [.int k.1,.int k.2])(h':SqT X.K H b [.int l.1,.int l.2]):k=l:=by
 have:=I.tuple_inj h h';injection this with e1 e2;injection e2 with e2 _;injection e1 with e1;injection e2 with e2;exact IB e1 e2
open Classical in
noncomputable def f6(K:CF)(H:Hp)(e:Int×CD):Int×Int:=if h:∃k:Int×Int,∃b,e.2=.ref b/\SqT K H b [.int k.1,.int k.2]then h.choose else(0,0)
theorem qH{pins:List (Addr×Obj)}{σ:St}{G H:Hp}{s:CH}{b:Addr}{k:Int×Int}{e:Int×CD}(eG:Same G H)(I:Inv X pins σ H s)(h:SqT X.K G b [.int k.1,.int k.2])(he:e.2=.ref b):f6 X.K G e=k:=by
 have ex:∃k:Int×Int,∃b,e.2=.ref b/\SqT X.K G b [.int k.1,.int k.2]:=⟨k,b,he,h⟩
 unfold f6;rw[dif_pos ex];obtain⟨b',e1,e2⟩:=ex.choose_spec;rw[he]at e1;cases e1;exact uS I (EA eG e2)<|EA eG h
def BH:CD->V
 | .ref b=>.ref b
 |_=>.non
def uT(prog:CT)(w:D6)(K:CF):List V->Hp->VK->Prop:=fun xs H Q=>∃(G:Hp)(p:Addr)(o:Obj)(ks:List (Int×Int)),xs=[.ref p]/\Same G H/\H p=some (XO p o)/\SetH prog w K G o ks/\ks.length<=63/\∀(q:Addr)(us:List V)(ks':List (Int×Int)),H q=none->ks'.Perm ks->ks'.Pairwise (fun a b=>mL a b=true)->us.length=ks'.length->(∀(i:Nat)(v:V)(k:Int×Int),us[i]? =some v->ks'[i]? =some k->∃b,v=.ref b/\SqT K G b [.int k.1,.int k.2])->Q (.ref q) (cI H q<|.lst us)
theorem mw(hc:X.calm=true):dC X (.builtin "sorted") (uT X.prog X.w X.K):=by
 intro pins s σ H xs us Q I r h;obtain⟨G,p,o,ks,rfl,eG,hp,⟨es,ep,t,R,T,nd⟩,h64,q⟩:=h;obtain⟨u,rfl,rx⟩:=f9 r;cases rx;have hpo:s.heap.get? p=some o:=(I.hok p _ hp).1;have hsz:es.size=ks.length:=by have:=T.len;simpa using this
 have op:=ib X.w p ep es;have osz:(dq X.w p ep es).size=es.size:=by have:=op.length_eq;simpa using this
 have ek:es.toList.map (f6 X.K G)=ks:=by
  apply EW;intro i;rw[CQ];by_cases z:i<es.toList.length
  ·obtain⟨k,b,q1,q2,q3,q4⟩:=T.at_ i es.toList[i] (CJ z);rw[CJ z,q1];exact congrArg some<|qH eG I q3 q2
  ·rw[E3 (by omega),E3 (by have:=T.len;omega)];rfl
 have mem:∀e∈(dq X.w p ep es).toList,∃b,e.2=.ref b/\SqT X.K G b [.int (f6 X.K G e).1,.int (f6 X.K G e).2]:=fun e he=>by
  obtain⟨j,hj,ej⟩:=Fc.mp<|op.mem_iff.mp he;obtain⟨k0,b0,r1,r2,r3,r4⟩:=T.at_ j e (by rw[CJ hj,ej]);exact⟨b0,r2,by rw[qH eG I r3 r2];exact r3⟩
 have kzp:((dq X.w p ep es).toList.map (f6 X.K G)).Perm ks:=by
  have:=op.map<|f6 X.K G;rw[ek]at this;exact this
 refine Calls.call_function_entry kind_sorted plain_sorted entry_sorted (args_sorted1 _) ?_;unfold Fq.«sorted»;refine Cy (m:=checkCount "sorted" 1 1 _)<|CG ?_;refine Cy (PySem.W.kdu_collect (A:=X.A.in1) (wO (a:=p) R) (I.ok.hd hc) hpo (by rw[E6];omega) fun h' tk acc hk hacc=>?_);have av:acc.toList=(dq X.w p ep es).toList.map (·.2):=by
  apply EW;intro i;rw[CQ];by_cases z:i<acc.size
  ·have z2:i< acc.toList.length:=by simpa using z
   obtain⟨e,q1,q2⟩:=hacc.2 i acc.toList[i] (by rw[<-E2];exact CJ z2);rw[CJ z2,E2,q1,q2];rfl
  ·have:=hacc.1;rw[E3 (by simp;omega),E3 (by simp;omega)];rfl
 have hal:acc.toList.length=ks.length:=by rw[Em,hacc.1,hsz]
 have I':=I.kept (t':=tk) hk;refine Cy (M1 ?_ (by rw[hal,E6];omega));have hoL:(h'.push<|seqObj "list" acc.toList.toArray 0).get? h'.objs.size=some (seqObj "list" acc.toList.toArray 0):=CM _ rfl;have src:∀v∈acc.toList,∃b,v=.ref b/\SqT X.K G b [.int (f6 X.K G (0,v)).1,.int (f6 X.K G (0,v)).2]:=fun v hv=>by
  rw[av]at hv;obtain⟨e,he,rfl⟩:=DU.mp hv;obtain⟨b,h2,h3⟩:=mem e he;exact⟨b,h2,by rw[show f6 X.K G (0,e.2)=f6 X.K G e from rfl];exact h3⟩
 have km:acc.toList.map (fun v=>f6 X.K G (0,v))=(dq X.w p ep es).toList.map (f6 X.K G):=by rw[av,F6];rfl
 refine Cy (DQ (Dy slot_list_sort ⟨_,hoL,rfl⟩ entry_list_sort (uR (key:=fun v=>f6 X.K G (0,v)) hoL (fun v hv=>?_) (by rw[km];exact kzp.nodup_iff.mpr nd) (by rw[hal];omega) fun out op' pw=>⟨_,rfl,?_⟩)<|args_list_sort _))
 ·obtain⟨b,rfl,h3⟩:=src v hv;obtain⟨its,rr,⟨ob,g1,g2,n,g3⟩,_⟩:=I'.tuple<|EA eG h3;obtain⟨u1,u2,e1,⟨t1,e2⟩,t2,e3⟩:∃u1 u2,its=[u1,u2]/\RelV (.int (f6 X.K G (0,.ref b)).1) u1/\RelV (.int (f6 X.K G (0,.ref b)).2) u2:=by
   cases rr with
   |cons a b=>cases b with
    |cons c d=>cases d with
     |nil=>exact⟨_,_,rfl,a,c⟩
  subst e1;rw[e2,e3]at g3;exact⟨b,ob,t1,t2,n,rfl,CB _ g1,g2,g3⟩
 obtain⟨e,he⟩:=sortedHeap_at (h:=h'.push<|seqObj "list" acc.toList.toArray 0) (a:=h'.objs.size) (vs:=acc.toList) (out:=out.toArray) (n:=0) hoL;have at_:∀v∈out,∃b,v=.ref b/\SqT X.K G b [.int (f6 X.K G (0,v)).1,.int (f6 X.K G (0,v)).2]:=fun v hv=>src v<|op'.mem_iff.mp hv;have pkz:(out.map fun v=>f6 X.K G (0,v)).Perm ks:=by
  have:=op'.map fun v=>f6 X.K G (0,v);rw[km]at this;exact this.trans kzp
 have ol:out.length=ks.length:=by rw[op'.length_eq];exact hal
 refine CG ⟨_,rfl,.ref h'.objs.size,_,I'.laid (t':=tk) (fun b o z=>?_) (CU _) (show ObjOk X.prog X.w _ _ _ (.lst<|out.map BH)from⟨by rw[Dc,E6];omega,out,e,?_,he⟩),rfl,q _ _ (out.map fun v=>f6 X.K G (0,v)) (I'.hok.fresh<|CU _) pkz pw (by rw[Dc,Dc]) fun i v k h1 h2=>?_⟩
 ·show(sortedHeap _ _ _ _).get? b=some o;rw[sortedHeap_old (D0<|CP z) (by rw[size_push'];exact GJ<|CP z)];exact CB _ z
 ·refine n4 _ _ (by rw[Dc]) fun j x u hx hu=>?_;rw[CQ,hu]at hx;cases hx;obtain⟨b,rfl,_⟩:=at_ u<|Dh hu;rfl
 ·rw[CQ]at h1 h2;obtain⟨u,hu,rfl⟩:=DM.mp h1;rw[hu]at h2;cases h2;obtain⟨b,rfl,h4⟩:=at_ u<|Dh hu;exact⟨b,rfl,h4⟩
end
def p0(w:D6):Obj:={cls:=.type "set",dict:=none,data:=.set #[] 0<|.fresh 0 0<|!w.params.followText "set-order",slots:= #[]}
theorem wX(prog:CT)(w:D6)(K:CF)(H:Hp):SetH prog w K H (p0 w) []:=
 ⟨#[],0,.fresh 0 0<|!w.params.followText "set-order",⟨⟨rfl,rfl,rfl⟩,rfl,⟨⟨rfl,rfl,fun a b _ hb=>by simp[Ln]at hb,fun j⟨a,ha,_⟩=>by simp[Ln]at ha,.inl rfl,fun i h e=>by simp at e⟩,by show 0*5<7*3;decide⟩,rfl,rfl⟩,⟨rfl,fun i e he=>by simp at he⟩,Fz⟩
def p4(w:D6)(cap:List (Option Nat))(wi:TI)(g:TG)(tf:TT)(tb:TB):TE:=fun σ H Q=>wi σ H fun J H1=>∀D,H1 D=none->rO g tf tb D (aZ cap σ) (cI H1 D<|XO D<|p0 w) (fun H'=>Q (.ref D) H') J
section
variable{X:Cx}{scope:Fm}{N:List Str}{cap:List (Option Nat)}{tg iter:Expr}{ifs:List Expr}{pos:Pos}{wi:TI}{g:TG}{tf:TT}{tb:TB}{body:Env->CD->Sem Unit}
theorem uU(S:CompScope X scope N cap)(hc:X.calm=true){elt:Expr}{gs:List Ik}(hi:PI X tg iter wi)
  (hg:∀s H C fp,PG (ao X scope N s H C fp) tg g) (hf:∀s H C fp,pT (ao X scope N s H C fp) ifs tf) (hb:∀s H C fp,PB (ao X scope N s H C fp) (body (ao X scope N s H C fp).env) tb)
  (ht:∀env it acc,compTurn (.SetComp elt (⟨tg,iter,ifs,0⟩::gs) scope pos) 0 it acc env=dG tg iter ifs (body env acc) it env (.compLoop (.SetComp elt (⟨tg,iter,ifs,0⟩::gs) scope pos) 0 it acc env):=by intro _ _ _;rfl)
  (hs:∀x,foldedSetIterable iter X.env x=pure x:=by intro _;rfl):PE X (.SetComp elt (⟨tg,iter,ifs,0⟩::gs) scope pos) (p4 X.w cap wi g tf tb):=by
 intro pins s σ H Q I h;rw[arm_eval_SetComp];have frc:∀x∈scope.names,x.2=.free->∃c,X.env.cells.lookup x.1=some c:=fun x hx hk=>I.ok.has x.1<|S.free x hx hk;refine F7 (use:=none) rfl hs (cT frc) S.kind (eA S)<|bF (hi pins s σ H _ I h) fun v s1 h1=>bF h1 fun itv s2 h2=>?_;obtain⟨it,fp,tn,J,H2,rfl,I2,T,st2,f2,w⟩:=h2;unfold newSet setsByText;refine Cy<|Cy<|FN<|CG ?_;refine DK ?_;have hz:H2 s2.heap.objs.size=none:=I2.hok.fresh<|CU _;have I3:Inv X pins σ (cI H2 s2.heap.objs.size<|XO s2.heap.objs.size<|p0 X.w) {s2 with heap:=s2.heap.push (p0 X.w)}:=
  I2.laid (a:=s2.heap.objs.size) (t':=s2.toks) (fun _ _ q=>CB _ q) (CU _) (Nb<|CM _ rfl)
 have nD:∀b∈fp,b≠s2.heap.objs.size:=fun b hb=>by
  obtain⟨o,e,_⟩:=T.obj _ _ st2 b hb;exact D0<|CP e
 have f3:∀b∈fp,FpOk X pins (cI H2 s2.heap.objs.size<|XO s2.heap.objs.size<|p0 X.w) b:=fun b hb=>⟨by rw[ax<|nD b hb];exact(f2 b hb).1,(f2 b hb).2⟩
 refine jP (RR:=fun C=>compPost (model X.prog X.w) X.A X.xe none (EP X pins σ Q) (.ref s2.heap.objs.size) C) S hc N8 rfl hg hf hb ht I3 T (T.keep _ _ _ st2 fun b hb o e=>CB _ e) f3 (w _ hz) fun C σ' H' s' hC I' q=>?_;obtain⟨m,hn,_⟩:=I'.loc;exact⟨m,hn,fun h' hs'=>⟨.ref _,H',lB I3 f3 hC I' hs',rfl,q⟩⟩
variable{kx vx elt tg2 iter2:Expr}{ifs2:List Expr}{wi2:TI}{g2:TG}{tf2:TT}{te:TE}
theorem sd(hu:X.A.units+1<cLine)(S:CompScope X scope N cap)(hc:X.calm=true)(hi:PI X tg iter wi)
  (hg:∀s H C fp,PG (ao X scope N s H C fp) tg g) (hf:∀s H C fp,pT (ao X scope N s H C fp) ifs tf)
  (hi2:∀s H C fp,PI (ao X scope N s H C fp) tg2 iter2 wi2) (hg2:∀s H C fp,PG (ao X scope N s H C fp) tg2 g2) (hf2:∀s H C fp,pT (ao X scope N s H C fp) ifs2 tf2) (he:∀s H C fp,PE (ao X scope N s H C fp) elt te)
  (hs:∀x,foldedSetIterable iter X.env x=pure x:=by intro _;rfl) (hs2:∀env x,foldedSetIterable iter2 env x=pure x:=by intro _ _;rfl):PE X (.SetComp elt [⟨tg,iter,ifs,0⟩,⟨tg2,iter2,ifs2,0⟩] scope pos) (p4 X.w cap wi g tf<|yX wi2 g2 tf2<|oZ X.prog X.w X.K te):=
 uU S hc hi hg hf (body:=wD iter2 (.SetComp elt [⟨tg,iter,ifs,0⟩,⟨tg2,iter2,ifs2,0⟩] scope pos) 1)
  (fun s H C fp=>yY (Y:=ao X scope N s H C fp) hc rfl (hi2 s H C fp) (hg2 s H C fp) (hf2 s H C fp) (body:=xY elt) (zb (Y:=ao X scope N s H C fp) rfl hu<|he s H C fp) N8 rfl (fun _ _ _=>rfl)<|hs2 _) (fun _ _ _=>by rw[rP];rfl) hs
end
end L2
namespace Wb
open PySem L2 Mi
section
variable{Er:Nat->Prop}{α:Type}{prog:CT}{w:D6}{K:CF}{W W' W0 Wb W1 W2:Wd}{σ:St}{te:TE}
structure OwS2(prog:CT)(w:D6)(K:CF)(W:Wd)(p:Addr)(ks:List (Int×Int)):Prop where
 g:W.G p=none
 h:∃o ks0,W.H p=some (XO p o)/\SetH prog w K W.G o ks0/\ks0.Perm ks
theorem se{G G':Hp}{o:Obj}{ks:List (Int×Int)}(h:SetH prog w K G o ks)(e:Same G G'):SetH prog w K G' o ks:=
 let ⟨es,ep,t,R,T,nd⟩:=h
 ⟨es,ep,t,R,⟨T.len,fun i x hx=>let ⟨k,b,q1,q2,q3,q4⟩:=T.at_ i x hx;⟨k,b,q1,q2,EA e q3,q4⟩⟩,nd⟩
theorem OwS2.mono{p:Addr}{ks:List (Int×Int)}(o:OwS2 prog w K W p ks)(e:Ext W W'):OwS2 prog w K W' p ks:=by
 obtain⟨x,k0,a,b,c⟩:=o.h;exact⟨by rw[e.k p (by rw[a];exact fun z=>nomatch z)];exact o.g,x,k0,e.h _ _ a,se b e.g,c⟩
theorem zc{me:Res (Int×Int)}{D:Addr}(eb:Ext Wb W)(hD:Wb.H D=none)(h:EV Er te σ W (sh<|isT2 K isI isI) me):BV Er (oZ prog w K te) σ Wb W (OwS2 prog w K) D (fun ks=>me.bind fun y=>rQ ks y):=fun W1 ks N e1 o k=>
 h W1 e1 _ ((CA k).imp fun y ky v W2 e2 hv=>by
  obtain⟨h3,h4⟩:=aW ky;have o2:=o.mono e2;obtain⟨ob,ks0,q1,q2,q3⟩:=o2.h;obtain⟨p,x1,x2,rfl,t1,r1,r2⟩:=hv;cases r1;cases r2;refine⟨W2.G,ob,ks0,p,y,W2.ok,q1,q2,by rw[q3.length_eq];exact h3,rfl,t1,fun hm=>?_,fun hm o' ks' s' p'=>?_⟩
  ·rw[if_pos<|q3.mem_iff.mp hm]at h4;exact h4 W2 e2.g ((eb.trans e1).trans e2) o2
  ·rw[if_neg (fun z=>hm (q3.mem_iff.mpr z))]at h4;exact h4 (W2.mut D (XO D o') o2.g) e2.g (((eb.trans e1).trans e2).mut hD o2.g) ⟨o2.g,o',ks',aG,s',p'.trans (.cons _ q3)⟩)
theorem uV{R:Rp α}{cap:List (Option Nat)}{wi:TI}{g:TG}{tf:TT}{t:TB}{mi:Res (List α)}{f:α->List (Int×Int)->Res (List<|Int×Int)}(hi:IV Er wi σ W R mi)
  (hs:∀Wb D W2 a v s(M:Hp->Prop),Same W.G W2.G->Ext W Wb->Wb.H D=none->Ext Wb W2->OwS2 prog w K W2 D s->R W2.G a v->(f a s).OkE Er (fun s'=>∀W',Same W2.G W'.G->Ext Wb W'->OwS2 prog w K W' D s'->M W'.H)->g v (aZ cap σ) W2.H fun σ2 H2=>Keep (aZ cap σ) σ2/\tf σ2 H2 fun b H3=>if b=true then t D σ2 H3 M else M H3):
  EVo Er (dP (uT prog w K)<|ak (p4 w cap wi g tf t) aQ) σ W (isT2 K isI isI) ((mi.bind fun xs=>bR f xs []).bind fun ks=>ux ks):=fun W1 e1 Q k=>by
 refine hi W1 e1 _<|(CA<|CA k).imp fun xs kx J W2 e2 hy D hD=>?_;refine mm (W:=W2) (W1:=W2.mut D (XO D<|p0 w)<|W2.gnone hD) (Wb:=W2) (O:=OwS2 prog w K) (s0:=[]) hy (.inr<|.refl _) (.own _ hD) ⟨W2.gnone hD,p0 w,[],aG,wX ..,.refl _⟩ (fun W3 a v s M e3 eb3 o3 r k3=>hs W2 D W3 a v s M ((e1.trans e2).g.trans e3) (e1.trans e2) hD eb3 o3 r k3) (fun _ _ _ e o=>o.mono e) ?_;exact kx.imp fun ks kk W' z1 z2 z3=>by
  obtain⟨h3,h4⟩:=aW kk;obtain⟨o,ks0,q1,q2,q3⟩:=z3.h;refine⟨W'.G,D,o,ks0,rfl,W'.ok,q1,q2,by rw[q3.length_eq];exact h3,fun q us ks1 hq p1 p2 l1 at_=>?_⟩;have e:ks1=eS ks:=jR (p1.trans q3) (p2.imp fun{a b}h=>by rw[je]at h;rw[jb];omega);rw[<-e]at h4;exact oN (W2:=W') (vs:=us) ⟨l1,fun i v m e1 e2=>by
   obtain⟨b,rfl,hb⟩:=at_ i v m e1 e2;exact⟨b,_,_,rfl,hb,rfl,rfl⟩⟩ (e2.trans z2) h4 q hq
end
end Wb
namespace L2
open PySem PySem.Spec PyProof.Rows Wb
def Az:R2:=fun x y H Q=>∃p q xs,x=.ref p/\y=.ref q/\H p=some (.lst xs)/\H q=some (.lst [])/\Q (.bl xs.isEmpty) H
theorem zd{X:Cx}(hu:X.A.units<cLine):OpR X (compareOp .Eq) Az:=by
 intro pins s σ H x y v u Q I rx ry h;obtain⟨p,q,xs,rfl,rfl,h1,h2,hq⟩:=h;cases rx;cases ry;obtain⟨i1,r1,t1,z1⟩:=I.list<|Fe (K:=X.K) h1;obtain⟨i2,r2,t2,z2⟩:=I.list<|Fe (K:=X.K) h2;have l1:=r1.length;have l2:=r2.length;have key:SeqAt.RcAt X.A s (.ref p) (.ref q) xs.isEmpty:=by
  cases xs with
  |nil=>
   have:=N5 (A:=X.A) (s:=s) (e:=fun _=>true) t1.isList t2.isList (by rw[CY,CY,<-l1,<-l2]) hu (fun j h1' h2'=>by
    have:j<i1.length:=by simpa using h1'
    rw[<-l1]at this;exact absurd this (Nat.not_lt_zero _))
   have e0:i1.toArray.size=0:=by rw[CY,<-l1];rfl
   rw[e0]at this;exact this
  |cons a r=>exact M4 t1.isList t2.isList (by simp at l1 l2 ⊢;omega) hu
 exact key _ _ _ _ ⟨.bl _,H,I,rfl,hq⟩
end L2
namespace Wb
open PySem L2 Mi
section
variable{Er:Nat->Prop}{α:Type}{W:Wd}{σ:St}{ta:TE}
theorem ze{R:Rp α}{ma:Res (List α)}(ha:EV Er ta σ W (pk R) ma):EV Er (df Az ta<|cm aQ) σ W (sh isB) (ma.bind fun a=>.ok a.isEmpty):=fun W1 e1 Q k=>
 ha W1 e1 _ ((CA k).imp fun a ka x W2 e2 hx=>by
  obtain⟨p,vs,rfl,h1,h2⟩:=hx;refine⟨by decide,fun q hq=>⟨p,q,vs,rfl,rfl,?_,aG,?_⟩⟩;·rw[ax (fun z=>by rw[z]at h1;rw[hq]at h1;cases h1)];exact h1
  ·have:vs.isEmpty=a.isEmpty:=by
    have:=h2.1;cases vs<;>cases a<;>simp at this ⊢
   rw[this];exact ka (.bl a.isEmpty) (W2.mut q (.lst []) (W2.gnone hq)) (e2.trans (.own _ hq)) rfl)
end
end Wb
namespace Mi
def jZ{α:Type}(kvs:List ((Int×Int)×α))(k:Int×Int)(a:α):Res (List<|(Int×Int)×α):=dQ (kvs.length<1000)<|nz kvs k a
end Mi
namespace Wb
open PySem PySem.W PySem.Calls PyProof.Rows
def nL(d:Addr)(n ep i:Nat):Obj:={cls:=.type "dict_keyiterator",dict:=none,data:=.fields #[.ref d,.int i 0,.int n 0,.int ep 0],slots:= #[]}
section
variable{prog:CT}{w:D6}{A:Dr}{E:CD->CH->Prop}{s:CH}{d it:Addr}{o:Obj}{es:Array EZ}{ep:Nat}
theorem sf{Q:CD->CH->Prop}(hd:(d==sysModules)=false)(ho:s.heap.get? d=some o)(hx:o.ExactDict)(hdat:o.data=.dict es ep)(hQ:Q (.ref s.heap.objs.size) {s with heap:=s.heap.push (nL d es.size ep 0)}):wpAny (model prog w) A (pyIter<|.ref d) Q E s:=by
 have hT:s.TypeIs (.ref d) "dict":=⟨o,ho,hx.1⟩
 refine GN hT KN<|Dy KN hT F.entry_dict_iter ?_<|F.args_dict_iter_1 _;unfold Fq.«dict.__iter__»;refine Cy ?_;unfold Lz;refine Cy<|wpAny_notOrdered_dict hT ?_;show wpAny _ _ (pure<|D8 d) _ _ s;refine CG ?_;show wpAny _ _ (Jh d>>=_) _ _ s;unfold Jh;rw[if_neg (by rw[hd];exact CS)];refine Cy<|CG ?_;refine Cy<|Ia ho hdat ?_;refine Cy<|J7 ho hdat ?_;refine Cy<|DK<|CG ⟨_,rfl,"dict_keyiterator",_,⟨_,CM _ rfl,rfl⟩,Ej.lookup,?_⟩;exact hQ
theorem si{i:Nat}{Q:Option CD->CH->Prop}(hit:s.heap.get? it=some (nL d es.size ep i))(ho:s.heap.get? d=some o)(hdat:o.data=.dict es ep)(hi:i<es.size)
  (hQ:∀h',h'.get? it=some (nL d es.size ep<|i+1)->D5 it s.heap h'->Q (some es[i].key) {s with heap:=h'}):wpAny (model prog w) A (pyNext<|.ref it) Q E s:=by
 have hT:s.TypeIs (.ref it) "dict_keyiterator":=⟨_,hit,rfl⟩
 unfold pyNext;refine Cy (EF (DD (name:=CI "__next__") hT Ej
  (Dy Ej hT Hm ?_ (Ha _))))
 refine Cy<|CG ?_;refine Cy ?_;refine Cy ?_
 first|refine Cy (Fd hT<|CG ?_)|refine Cy<|FD hT<|CG ?_
 refine Cy<|HK hit rfl ?_;have hown:Hs "dict_keyiterator"=false:=by decide
 simp only[hown,Dm,if_false];show wpAny _ _ (if(D8 d==Df)=true then _ else _) _ _ s;rw[if_neg (show ¬((D8 d==Df)=true)from CS)];refine Cy<|CG ?_;refine Cy<|Ia ho hdat ?_;rw[if_neg (by simp)];refine Cy<|CG ?_;refine Cy<|J7 ho hdat ?_;rw[if_neg (by simp)];refine CG ?_;simp only[show ¬((i:Int)<0)from by omega,if_false,DY,DC hi];refine Cy ?_
 first|refine Cy (Fd hT<|CG ?_)|refine Cy<|FD hT<|CG ?_
 refine Cy<|Ji hT ?_;show wpAny _ _ (setField (.ref it) 1 (rawInt<|(i:Int)+1)>>=_) _ _ s;refine Cy (Ed hit rfl (by simp) ?_);have hit':=DS (DV (·.setIfInBounds 1 (rawInt<|(i:Int)+1))) hit rfl;refine Cy<|DQ ?_;refine Cy (Ji (s:={s with heap:=s.heap.update it (DV (·.setIfInBounds 1 (rawInt<|(i:Int)+1)))}) ⟨_,hit',rfl⟩ ?_);show wpAny _ _ (pure es[i].key) _ _ _;exact CG<|CG ⟨_,rfl,CG<|hQ _ (hit'.trans rfl)<|E4 ..⟩
theorem uW{Q:Option CD->CH->Prop}(hh:A.handled=none)(hit:s.heap.get? it=some (nL d es.size ep es.size))(ho:s.heap.get? d=some o)(hdat:o.data=.dict es ep)
  (hQ:∀h',F9 it s.heap h'->Q none {s with heap:=h'}):wpAny (model prog w) A (pyNext<|.ref it) Q E s:=by
 have hT:s.TypeIs (.ref it) "dict_keyiterator":=⟨_,hit,rfl⟩
 unfold pyNext;refine Cy (EF (DD (name:=CI "__next__") hT Ej
  (Dy Ej hT Hm ?_ (Ha _))))
 refine Cy<|CG ?_;refine Cy ?_;refine Cy ?_
 first|refine Cy (Fd hT<|CG ?_)|refine Cy<|FD hT<|CG ?_
 refine Cy<|HK hit rfl ?_;have hown:Hs "dict_keyiterator"=false:=by decide
 simp only[hown,Dm,if_false];show wpAny _ _ (if(D8 d==Df)=true then _ else _) _ _ s;rw[if_neg (show ¬((D8 d==Df)=true)from CS)];refine Cy<|CG ?_;refine Cy<|Ia ho hdat ?_;rw[if_neg (by simp)];refine Cy<|CG ?_;refine Cy<|J7 ho hdat ?_;rw[if_neg (by simp)];refine CG ?_;simp only[show ¬((es.size:Int)<0)from by omega,if_false,DY,FX<|CU es.size];refine Cy ?_
 first|refine Cy (Fd hT<|CG ?_)|refine Cy<|FD hT<|CG ?_
 show wpAny _ _ (setField (.ref it) 0 .none>>=_) _ _ s;refine Cy (Ed hit rfl (by simp) ?_);show wpAny _ _ (newExc (.type "StopIteration") []>>=_) _ _ _;refine Cy ?_;simp only[newExc,newTuple];refine Cy (DK ?_ (by size_fits));refine Cy (m:=firstArgMember _ _) (HY (a:=Df) (by first|rfl|(simp only[firstArgMember];rfl)) ?_);refine DK ?_ (by size_fits);simp only[raiseNew];refine Cy<|Ih ?_;rw[show A.in1.handled=none from hh];refine Cy<|CG<|Js ?_;refine Cy<|Ew (T:="StopIteration") (b:=true) ⟨_,CM _ rfl,rfl⟩ Fb ?_;exact CG<|hQ _<|((E4 ..).extBut.push _).push _
end
end Wb
namespace L2
open PySem PySem.Spec PyProof.Rows Wb
def KP(K:CF)(G:Hp):List ((Int×Int)×V)->List (List Key×Addr×CD)->Prop:=Paired<|fun(p:(Int×Int)×V)(q:List Key×Addr×CD)=>iT p.1=q.1/\SqT K G q.2.1 [.int p.1.1,.int p.1.2]/\RelV p.2 q.2.2
section
variable{K:CF}{G G':Hp}{kvs:List ((Int×Int)×V)}{xs:List (List Key×Addr×CD)}
theorem KP.val(r:KP K G kvs xs)(k:Int×Int):RelO (gK kvs k) ((atKey xs<|iT k).map (·.2)):=by
 unfold KP at r
 induction r with
 |nil=>exact G8
 | @cons p q ps qs h t ih=>
  obtain⟨h1,_,h2⟩:=h;by_cases e:p.1=k
  ·have e':q.1=iT k:=by rw[<-h1,e]
   have b:atKey (q::qs) (iT k)=some q.2:=by simp[atKey,EH,e']
   rw[fX e,b];exact h2
  ·have e':¬q.1=iT k:=fun z=>e<|jf<|h1.trans z;have b:atKey (q::qs) (iT k)=atKey qs (iT k):=by simp[atKey,EH,e']
   rw[fY e,b];exact ih
theorem KP.repl(r:KP K G kvs xs)(k:Int×Int){y:V}{u:CD}(ry:RelV y u):KP K G (kvs.map fun kv=>if kv.1=k then(kv.1,y)else kv) (xs.map<|MA (iT k) u):=by
 unfold KP at r ⊢
 induction r with
 |nil=>exact .nil
 | @cons p q ps qs h t ih=>
  rw[Dk,Dk];refine .cons ?_ ih;obtain⟨h1,h2,h3⟩:=h;unfold MA;by_cases e:p.1=k;·rw[if_pos e,if_pos (by rw[<-h1,e])];exact⟨h1,h2,ry⟩
  ·rw[if_neg e,if_neg<|fun z=>e<|jf<|h1.trans z];exact⟨h1,h2,h3⟩
theorem KP.put(r:KP K G kvs xs)(k:Int×Int){b:Addr}{y:V}{u:CD}(hb:SqT K G b [.int k.1,.int k.2])(ry:RelV y u):KP K G (qY kvs k y) (storedH xs (iT k) b u):=by
 have e:(kvs.any fun kv=>decide<|kv.1=k)=(atKey xs<|iT k).isSome:=by rw[mU,(r.val k).isSome_eq,Option.isSome_map]
 unfold qY storedH;rw[e];by_cases q:(atKey xs<|iT k).isSome=true;·rw[if_pos q,if_pos q];exact r.repl k ry
 ·rw[if_neg q,if_neg q];exact Paired.snoc r ⟨rfl,hb,ry⟩
theorem KP.same(r:KP K G kvs xs)(e:Same G G'):KP K G' kvs xs:=Paired.mapP r fun _ _ z=>⟨z.1,EA e z.2.1,z.2.2⟩
end
def DictP(prog:CT)(w:D6)(K:CF)(G:Hp)(o:Obj)(kvs:List ((Int×Int)×V)):Prop:=∃es ep xs,o.ExactDict/\o.data=.dict es ep/\es.toList=xs.map (entryOfKey<|tupleKind<|mixKind prog w)/\(xs.map (·.1)).Nodup/\KP K G kvs xs
def PDa(prog:CT)(w:D6)(K:CF)(G H:Hp)(a:Addr)(kvs:List ((Int×Int)×V)):Prop:=∃o,Same G H/\H a=some (XO a o)/\(a==sysModules)=false/\DictP prog w K G o kvs/\kvs.length<=1000
def k9:Obj:={cls:=.type "dict",dict:=none,data:=.dict #[],slots:= #[]}
section
variable{X:Cx}{K:CF}{pos pos':Pos}{o i value:Expr}{td ty tv:TE}{pins:List (Addr×Obj)}{σ:St}{H:Hp}{s:CH}
theorem uX(prog:CT)(w:D6)(K:CF)(G:Hp):DictP prog w K G k9 []:=⟨#[],0,[],⟨rfl,rfl,rfl⟩,rfl,rfl,Gd,.nil⟩
theorem PDa.h{G:Hp}{a:Addr}{kvs:List ((Int×Int)×V)}(I:Inv X pins σ H s)(g:PDa X.prog X.w X.K G H a kvs):∃xs,KP X.K G kvs xs/\s.heap.DictOfH (tupleKind<|mixKind X.prog X.w) a xs/\xs.length<=1000:=by
 obtain⟨o,eG,ha,lo,⟨es,ep,xs,ex,dat,he,nd,r⟩,hl⟩:=g;have hl2:kvs.length=xs.length:=Paired.length r;refine⟨xs,r,⟨o,es,ep,(I.hok a _ ha).1,ex,dat,he,fun x hx=>?_,nd⟩,by omega⟩;obtain⟨j,hj⟩:=GR.mp hx;obtain⟨p,hp,h1,h2,h3⟩:=iA r hj;rw[<-h1];exact fE I<|EA eG h2
end
end L2
namespace Wb
open PySem L2 Mi
section
variable{Er:Nat->Prop}{α:Type}{prog:CT}{w:D6}{K:CF}{W W' W0 W1 W2:Wd}{σ:St}{te ti ta:TE}{R:Rp α}{i:Nat}{p:Addr}{D:Ends}{r:TS}
structure OwP(prog:CT)(w:D6)(K:CF)(R:Rp α)(W:Wd)(p:Addr)(kvs:List ((Int×Int)×α)):Prop where
 g:W.G p=none
 h:∃o vs,W.H p=some (XO p o)/\(p==sysModules)=false/\DictP prog w K W.G o vs/\vs.length<=1000/\vs.length=kvs.length/\∀(i:Nat)(q:(Int×Int)×V)(x:(Int×Int)×α),vs[i]? =some q->kvs[i]? =some x->q.1=x.1/\R W.G x.2 q.2
theorem dictP_same{G G':Hp}{o:Obj}{kvs:List ((Int×Int)×V)}(h:DictP prog w K G o kvs)(e:Same G G'):DictP prog w K G' o kvs:=
 let ⟨es,ep,xs,a,b,c,d,r⟩:=h
 ⟨es,ep,xs,a,b,c,d,r.same e⟩
theorem OwP.mono[Mono R]{kvs:List ((Int×Int)×α)}(o:OwP prog w K R W p kvs)(e:Ext W W'):OwP prog w K R W' p kvs:=by
 obtain⟨x,vs,a,lo,b,hl,c,d⟩:=o.h;exact⟨by rw[e.k p (by rw[a];exact fun z=>nomatch z)];exact o.g,x,vs,e.h _ _ a,lo,dictP_same b e.g,hl,c,fun i q y h1 h2=>⟨(d i q y h1 h2).1,Cz e.g (d i q y h1 h2).2⟩⟩
theorem uY{H:Hp}{vs:List ((Int×Int)×V)}{xs:List ((Int×Int)×α)}(hl:vs.length=xs.length)(h:∀(i:Nat)(q:(Int×Int)×V)(x:(Int×Int)×α),vs[i]? =some q->xs[i]? =some x->q.1=x.1/\R H x.2 q.2){k:Int×Int}{a:α}{v:V}(hv:R H a v):
  (qY vs k v).length=(nz xs k a).length/\∀(i:Nat)(q:(Int×Int)×V)(x:(Int×Int)×α),(qY vs k v)[i]? =some q->(nz xs k a)[i]? =some x->q.1=x.1/\R H x.2 q.2:=by
 have key:∀(vs:List ((Int×Int)×V))(xs:List ((Int×Int)×α)),vs.length=xs.length->(∀(i:Nat)(q:(Int×Int)×V)(x:(Int×Int)×α),vs[i]? =some q->xs[i]? =some x->q.1=x.1/\R H x.2 q.2)->(vs.any fun p=>decide<|p.1=k)=(xs.any fun p=>decide<|p.1=k):=by
  intro vs
  induction vs with
  |nil=>intro xs hl _;cases xs with|nil=>rfl|cons _ _=>cases hl
  |cons q vs ih=>
   intro xs hl h;cases xs with
   |nil=>cases hl
   |cons x xs=>rw[Hd,Hd,ih xs (by simpa using hl) fun i q x h1 h2=>h (i+1) q x h1 h2,(h 0 q x rfl rfl).1]
 unfold qY nz;rw[key vs xs hl h];by_cases z:(xs.any fun p=>decide<|p.1=k)=true
 ·rw[if_pos z,if_pos z];refine⟨by rw[Dc,Dc];exact hl,fun i q x h1 h2=>?_⟩;rw[CQ]at h1 h2;obtain⟨q',h3,rfl⟩:=DM.mp h1;obtain⟨x',h4,rfl⟩:=DM.mp h2;have:=h i q' x' h3 h4;by_cases y:x'.1=k;·rw[if_pos y,if_pos<|this.1.trans y];exact⟨this.1,hv⟩
  ·rw[if_neg y,if_neg<|fun e=>y<|this.1.symm.trans e];exact this
 ·rw[if_neg z,if_neg z];refine⟨by simp[hl],fun i q x h1 h2=>?_⟩;by_cases y:i<vs.length
  ·rw[Dq y]at h1;rw[Dq (by omega)]at h2;exact h i q x h1 h2
  ·rw[Dg (by omega)]at h1;rw[Dg (by omega),<-hl]at h2;cases e:i-vs.length with
   |zero=>rw[e]at h1 h2;cases h1;cases h2;exact⟨rfl,hv⟩
   |succ n=>rw[e]at h1;simp at h1
theorem uZ{kvs:List ((Int×Int)×α)}{k:Int×Int}{a:α}:(nz kvs k a).length<=kvs.length+1:=by unfold nz;split<;>simp
def EVp(prog:CT)(w:D6)(K:CF)(Er:Nat->Prop)(t:TE)(σ:St)(W:Wd)(R:Rp α)(m:Res (List<|(Int×Int)×α)):Prop:=∀W1,Ext W W1->∀Q:VK,m.OkE Er (fun xs=>∀p W2,Ext W1 W2->W1.H p=none->OwP prog w K R W2 p xs->Q (.ref p) W2.H)->t σ W1.H Q
end
end Wb
namespace Mi
abbrev Cd:=Tx×Tx×Int
abbrev Pl:=Tx×Tx×Tx
abbrev Ii:=Int×Int
def kf{κ α:Type}[DecidableEq κ](kvs:List (κ×α))(k:κ)(z:α):α:=(look kvs k).getD z
def my(n:Int):Res (List Int):=dQ (-(2^61)<=n/\n<2^61) (eY n).reverse
end Mi
namespace L2
open PySem PySem.Spec PyProof.Rows Wb
def BM(a:Addr)(o:Obj)(es:Array EZ):It:=⟨fun i H=>H a=some (XO a o)/\i<es.size,fun i H x H'=>H'=H/\∃e,es[i]? =some e/\RelV x e.key,fun i H=>H a=some (XO a o)/\i=es.size⟩
theorem p5{P:CT}{w:D6}{K:CF}{tg:Expr}{a it:Addr}{o:Obj}{es:Array EZ}{ep:Nat}(hdat:o.data=.dict es ep)(hx:o.ExactDict)(hr:∀(i:Nat)(e:EZ),es[i]? =some e->∃b,e.key=.ref b):Turn P w K tg (BM a o es) [it] it (fun i h=>h.get? it=some (nL a es.size ep i)) where
 mem:=by simp
 obj:=fun i h st b hb=>by
  have e:b=it:=by simpa using hb
  subst e;exact⟨_,st,fun v z=>by
   have z':Hi _=FG v:=z;cases z'⟩
 keep:=fun i h h' st k=>k it (by simp) _ st
 item:=by
  intro X hP hw hK hc i pins s σ H E I hf st hg;subst hP hw hK;obtain⟨ha,hi⟩:=hg;obtain⟨f0,f1,f2,f3,f4,f5⟩:=hf it (by simp);have ho:s.heap.get? a=some o:=(I.hok a _ ha).1;refine si st ho hdat hi fun h' st' sb=>?_;have I1:Inv X pins σ H {s with heap:=h'}:=I.turned (t':=s.toks) (fun b o hb e=>(sb.2 b hb).trans e) f0 f1 f3 f4 f5;obtain⟨b,hb⟩:=hr i _<|DC hi;exact⟨_,rfl,kY (s:={s with heap:=h'}) (n:="dict_keyiterator") st' rfl rfl (by decide) ⟨.ref b,H,I1,by rw[hb];rfl,⟨rfl,_,DC hi,by rw[hb];rfl⟩,st',fun b hb=>(hf b hb).1⟩⟩
 done:=by
  intro X hP hw hK hc i pins s σ H E I hf st hg;subst hP hw hK;obtain⟨ha,hi⟩:=hg;subst hi;obtain⟨f0,f1,f2,f3,f4,f5⟩:=hf it (by simp);have ho:s.heap.get? a=some o:=(I.hok a _ ha).1;exact uW (I.ok.hd hc) st ho hdat fun h' eb=>⟨rfl,I.turned (t':=s.toks) (fun b o hb e=>eb b o hb e) f0 f1 f3 f4 f5⟩
 self:=fun A i s Q E st hQ=>by
  have hT:s.TypeIs (.ref it) "dict_keyiterator":=⟨_,st,rfl⟩
  refine GN hT Ht<|Dy Ht hT F.entry_dict_keyiterator_iter ?_<|F.args_dict_keyiterator_iter_1 _;show wpAny _ _ (ret<|.ref it) _ _ s;exact CG ⟨_,rfl,"dict_keyiterator",_,hT,Ej.lookup,hQ⟩
def p7(prog:CT)(w:D6)(K:CF)(tl:TE):TI:=fun σ H R=>tl σ H fun x H1=>∃G a o kvs,x=.ref a/\Same G H1/\H1 a=some (XO a o)/\(a==sysModules)=false/\DictP prog w K G o kvs/\∀es ep,o.data=.dict es ep->es.size=kvs.length->(∀(i:Nat)(e:EZ)(p:(Int×Int)×V),es[i]? =some e->kvs[i]? =some p->∃b,e.key=.ref b/\SqT K G b [.int p.1.1,.int p.1.2])->R (BM a o es) H1
theorem DictP.ents{prog:CT}{w:D6}{K:CF}{G:Hp}{o:Obj}{kvs:List ((Int×Int)×V)}(h:DictP prog w K G o kvs):∃es ep,o.ExactDict/\o.data=.dict es ep/\es.size=kvs.length/\∀(i:Nat)(e:EZ)(p:(Int×Int)×V),es[i]? =some e->kvs[i]? =some p->∃b,e.key=.ref b/\SqT K G b [.int p.1.1,.int p.1.2]:=by
 obtain⟨es,ep,ys,hx,hdat,he,nd,rel⟩:=h;refine⟨es,ep,hx,hdat,by rw[<-Em,he,Dc];exact(Paired.length rel).symm,fun i e p h1 h2=>?_⟩;rw[<-E2,he,CQ]at h1;obtain⟨y,h3,rfl⟩:=DM.mp h1;obtain⟨p',h4,h5,h6,h7⟩:=iA rel h3;rw[h2]at h4;cases h4;exact⟨y.2.1,rfl,h6⟩
section
variable{X:Cx}{K:CF}{pos pos':Pos}{o i e tg l:Expr}{td ty tv tl tk:TE}{pins:List (Addr×Obj)}{σ:St}{H:Hp}{s:CH}
theorem va(hl:PE X l tl):PI X tg l (p7 X.prog X.w X.K tl):=by
 intro pins s σ H R I h;refine bF (hl pins s σ H _ I h) fun v s1 zz=>?_;obtain⟨x,H1,I1,r1,q1⟩:=zz;obtain⟨G,a,ob,kvs,e,eG,ha,lo,d,q⟩:=q1;subst e;cases r1;obtain⟨es,ep,hx,hdat,hs,at_⟩:=d.ents;have ho:s1.heap.get? a=some ob:=(I1.hok a _ ha).1;refine sf lo ho hx hdat ?_;refine⟨s1.heap.objs.size,[s1.heap.objs.size],_,_,H1,rfl,I1.kept (t':=s1.toks) fun b o e=>CB _ e,p5 hdat hx<|fun i e he=>?_,CM _ rfl,fun b hb=>?_,q es ep hdat hs at_⟩
 ·have hi:i< kvs.length:=by have:=(E1.mp he).1;omega
  obtain⟨b,hb,_⟩:=at_ i e _ he<|CJ hi;exact⟨b,hb⟩
 ·have e:b=s1.heap.objs.size:=by simpa using hb
  subst e;exact I1.fpOk (CU _)<|I1.hok.fresh<|CU _
def vb(prog:CT)(w:D6)(K:CF)(td ty:TE):TE:=fun σ H Q=>td σ H fun x H1=>ty σ H1 fun y H2=>∃G a kvs b k v,x=.ref a/\PDa prog w K G H2 a kvs/\y=.ref b/\SqT K G b [.int k.1,.int k.2]/\gK kvs k=some v/\Q v H2
theorem wY(hu:X.A.units+1<cLine)(ho:PE X o td)(hi:PE X i ty)(hs:sS i):PE X (.Subscript o i pos) (vb X.prog X.w X.K td ty):=by
 intro pins s σ H Q I h;refine pQ HQ.lookup hs<|bF (ho pins s σ H _ I h) fun u s1 zz=>?_;obtain⟨x,H1,I1,rx,q1⟩:=zz;refine bF (hi pins s1 σ H1 _ I1 q1) fun iv s2 zz=>?_;obtain⟨y,H2,I2,ry,G,a,kvs,b,k,v,ex,g,ey,hb,ev,q2⟩:=zz;subst ex ey;obtain rfl:u=D8 a:=rx;obtain rfl:iv=D8 b:=ry;obtain⟨xs,rel,dd,hx⟩:=g.h I2;obtain⟨ob,eG,ha,lo,_,_⟩:=g;have hT:s2.TypeIs (.ref a) "dict":=by
  obtain⟨od,es,ep,h1,h2,_⟩:=id dd;exact⟨od,h1,h2.1⟩
 refine⟨hT,?_⟩;obtain⟨w',hw,rw'⟩:=Mk (v:=v) (o:=(atKey xs<|iT k).map (·.2)) (by rw[<-ev];exact rel.val k);obtain⟨p,hp,rfl⟩:=DM.mp hw;exact wpAny_getItem_heap (Kb hu) (fE I2<|EA eG hb) dd hp ⟨v,H2,I2.tok _,rw',q2⟩
def vc(prog:CT)(w:D6)(K:CF)(td ty tv:TE):TE:=fun σ H Q=>td σ H fun x H1=>∃a,x=.ref a/\(ty σ H1 fun y H2=>tv σ H2 fun z H3=>∃G kvs b k,PDa prog w K G H3 a kvs/\y=.ref b/\SqT K G b [.int k.1,.int k.2]/\Q ((gK kvs k).getD z) H3)/\∃o kvs G,Same G H1/\H1 a=some (XO a o)/\(a==sysModules)=false/\DictP prog w K G o kvs
theorem sj{x:Option V}{y:Option CD}{z:V}{u:CD}(r:RelO x y)(rz:RelV z u):RelV (x.getD z) (y.getD u):=by
 cases x<;>cases y;·exact rz
 ·exact r.elim
 ·exact r.elim
 ·exact r
theorem nM{apos cpos:Pos}{k d:Expr}(hu:X.A.units+1<cLine)(ho:PE X o td)(hk:PE X k tk)(hd:PE X d tv)
  (hbase:attributeBase o (CI "get") X.env (eval o X.env)=eval o X.env:=by rfl)
  (hfew:((backTo cpos<|starEach [k,d] X.env).all (fun x=> !x.1) && (backToKw cpos<|keywordEach [] X.env).all (fun x=>x.1.isSome)
   &&decide (([k,d]:List Expr).length+([]:List IL).length+(if([]:List IL).isEmpty then 0 else 1)<30))=true:=by rfl)
  (hline:(apos.endLine==cpos.line)=true:=by rfl) (hs:starEach [k,d] X.env=[(false,eval k X.env),(false,eval d X.env)]:=by rfl):
  PE X (.Call (.Attribute o (CI "get") apos) [k,d] [] cpos) (vc X.prog X.w X.K td tk tv):=by
 intro pins s σ H Q I h;refine IM hbase hfew hline rfl<|bF (ho pins s σ H _ I h) fun v s1 zz=>?_;obtain⟨x,H1,I1,r1,a,e,q1,ob,kvs,G,eG,ha,lo,dp⟩:=zz;subst e;cases r1;obtain⟨es,ep,hx,hdat,_⟩:=dp.ents;have hob:s1.heap.get? a=some ob:=(I1.hok a _ ha).1;refine⟨"dict","dict.get",PySem.F.plainAttrs_dict,PySem.F.slot_dict_get,PySem.F.type_dict_get,⟨ob,hob,hx.1⟩,fun b e2=>?_,?_⟩
 ·cases e2;exact⟨ob,hob,hx.2.1⟩
 ·rw[hs];refine wpAny_dict_get2_heap (knd:=tupleKind<|mixKind X.prog X.w) (Kb hu) lo<|bF (hk pins s1 σ H1 _ I1 q1) fun u s2 zz=>?_;obtain⟨y,H2,I2,r2,q2⟩:=zz;refine bF (hd pins s2 σ H2 _ I2 q2) fun t s3 zz=>?_;obtain⟨z,H3,I3,r3,G3,kvs3,b,kk,g3,ey,hb,q3⟩:=zz;subst ey;obtain rfl:u=D8 b:=r2;obtain⟨xs,rel,dd,hz⟩:=g3.h I3;obtain⟨_,eG3,_⟩:=g3;exact⟨b,iT kk,xs,rfl,fE I3<|EA eG3 hb,dd,_,H3,I3.tok _,sj (rel.val kk) r3,q3⟩
def vd(cap:List (Option Nat))(wi:TI)(g:TG)(tf:TT)(tb:TB):TE:=fun σ H Q=>wi σ H fun J H1=>∀D,H1 D=none->(D==sysModules)=false->rO g tf tb D (aZ cap σ) (cI H1 D<|XO D k9) (fun H'=>Q (.ref D) H') J
def p8(prog:CT)(w:D6)(K:CF)(tk tv:TE):TB:=fun D σ H N=>tk σ H fun y H1=>tv σ H1 fun v H2=>∃G kvs b k,PDa prog w K G H2 D kvs/\kvs.length<1000/\y=.ref b/\SqT K G b [.int k.1,.int k.2]/\∀o',DictP prog w K G o' (qY kvs k v)->N (cI H2 D<|XO D o')
theorem ve{Y:Cx}{kx vx:Expr}(hxe:Y.xe=fun _ _=>False)(hu:Y.A.units+1<cLine)(hk:PE Y kx tk)(hv:PE Y vx tv):PB Y (xV kx vx Y.env) (p8 Y.prog Y.w Y.K tk tv):=by
 intro D pins s σ H N I h;have hk':=hk pins s σ H _ I h;rw[hxe]at hk';refine Cy<|bF hk' fun u s1 zz=>?_;obtain⟨x,H1,I1,r1,q1⟩:=zz;have hv':=hv pins s1 σ H1 _ I1 q1;rw[hxe]at hv';refine Cy<|DQ<|bF hv' fun r s2 zz=>?_;obtain⟨y,H2,I2,r2,G,kvs,b,k,g,hl,ex,hb,q⟩:=zz;subst ex;obtain rfl:u=D8 b:=r1;obtain⟨xs,rel,dd,hx⟩:=g.h I2;obtain⟨ob,eG,ha,lo,_,_⟩:=g;refine Cy (F4 (DQ (wpAny_dictSet_heap (hsz:=by rw[E6];omega) (show(tupleKind<|mixKind Y.prog Y.w).room Y.A from Nat.lt_of_succ_lt hu) (fE I2<|EA eG hb) dd fun h' dd' hs=>?_)));obtain⟨o',es,ep,hq,h2,h3,h4,_,h5⟩:=dd';exact⟨σ,_,wa I2 (by rw[ha];exact G8) hs ⟨o',hq⟩<|Nb hq,fun _ _ e=>e,q o' ⟨es,ep,_,h2,h3,h4,h5,rel.put k hb r2⟩⟩
variable{scope:Fm}{N:List Str}{cap:List (Option Nat)}{iter kx vx:Expr}{ifs:List Expr}{wi:TI}{g:TG}{tf:TT}{tb:TB}{body:Env->CD->Sem Unit}
theorem iK(hu:X.A.units+1<cLine)(S:CompScope X scope N cap)(hc:X.calm=true)(hi:PI X tg iter wi)
  (hg:∀s H C fp,PG (ao X scope N s H C fp) tg g) (hf:∀s H C fp,pT (ao X scope N s H C fp) ifs tf) (hk:∀s H C fp,PE (ao X scope N s H C fp) kx tk) (hv:∀s H C fp,PE (ao X scope N s H C fp) vx tv)
  (hs:∀x,foldedSetIterable iter X.env x=pure x:=by intro _;rfl):PE X (.DictComp kx vx [⟨tg,iter,ifs,0⟩] scope pos) (vd cap wi g tf<|p8 X.prog X.w X.K tk tv):=by
 intro pins s σ H Q I h;rw[arm_eval_DictComp];have frc:∀x∈scope.names,x.2=.free->∃c,X.env.cells.lookup x.1=some c:=fun x hx hk=>I.ok.has x.1<|S.free x hx hk;refine F7 (use:=none) rfl hs (cT frc) S.kind (eA S)<|bF (hi pins s σ H _ I h) fun v s1 h1=>bF h1 fun itv s2 h2=>?_;obtain⟨it,fp,tn,J,H2,rfl,I2,T,st2,f2,w⟩:=h2;refine DK ?_;have hz:H2 s2.heap.objs.size=none:=I2.hok.fresh<|CU _;have I3:Inv X pins σ (cI H2 s2.heap.objs.size<|XO s2.heap.objs.size k9) {s2 with heap:=s2.heap.push {cls:=.type "dict",dict:=none,data:=.dict #[]}}:=
  I2.laid (a:=s2.heap.objs.size) (t':=s2.toks) (fun _ _ q=>CB _ q) (CU _) (Nb (o:=k9)<|CM _ rfl)
 have nD:∀b∈fp,b≠s2.heap.objs.size:=fun b hb=>by
  obtain⟨o,e,_⟩:=T.obj _ _ st2 b hb;exact D0<|CP e
 have f3:∀b∈fp,FpOk X pins (cI H2 s2.heap.objs.size<|XO s2.heap.objs.size k9) b:=fun b hb=>⟨by rw[ax<|nD b hb];exact(f2 b hb).1,(f2 b hb).2⟩
 refine jP (RR:=fun C=>compPost (model X.prog X.w) X.A X.xe none (EP X pins σ Q) (.ref s2.heap.objs.size) C) (body:=xV kx vx) S hc CompE.dict rfl hg hf (fun s H C fp=>ve (Y:=ao X scope N s H C fp) rfl hu (hk s H C fp)<|hv s H C fp) (fun _ _ _=>rfl) I3 T (T.keep _ _ _ st2 fun b hb o e=>CB _ e) f3 (w _ hz<|beq_eq_false_iff_ne.mpr<|F3<|D0 I2.big) fun C σ' H' s' hC I' q=>?_;obtain⟨m,hn,_⟩:=I'.loc;exact⟨m,hn,fun h' hs'=>⟨.ref _,H',lB I3 f3 hC I' hs',rfl,q⟩⟩
end
end L2
namespace Wb
open PySem L2 Mi
section
variable{Er:Nat->Prop}{α β:Type}{prog:CT}{w:D6}{K:CF}{W W' W0 Wb W1 W2:Wd}{σ:St}{t te tk tv td ti ta:TE}{R:Rp α}{i:Nat}{p:Addr}{D:Ends}{r:TS}
def isPD(prog:CT)(w:D6)(K:CF)(R:Rp α):Rp (List<|(Int×Int)×α):=fun G kvs v=>∃p o vs,v=.ref p/\G p=some (XO p o)/\(p==sysModules)=false/\DictP prog w K G o vs/\vs.length<=1000/\vs.length=kvs.length/\∀(i:Nat)(q:(Int×Int)×V)(x:(Int×Int)×α),vs[i]? =some q->kvs[i]? =some x->q.1=x.1/\R G x.2 q.2
instance zkeep68[Mono R]:Mono (isPD prog w K R):=⟨fun e⟨p,o,vs,h0,h1,h2,h3,h4,h5,h6⟩=>⟨p,o,vs,h0,e _ _ h1,h2,dictP_same h3 e,h4,h5,fun i q x a b=>⟨(h6 i q x a b).1,Cz e (h6 i q x a b).2⟩⟩⟩
theorem OwP.frz[Mono R]{kvs:List ((Int×Int)×α)}(o:OwP prog w K R W p kvs)(e:Ext W0 W)(hp:W0.H p=none):
  ∃W',W'.H=W.H/\Ext W0 W'/\Same W.G W'.G/\isPD prog w K R W'.G kvs (.ref p)/\∀q,q≠p->W'.G q=W.G q:=by
 obtain⟨ob,vs,a,lo,b,hl,c,d⟩:=o.h;exact⟨W.frz p _ a,rfl,e.frz hp a o.g,cN o.g,⟨p,ob,vs,rfl,aG,lo,dictP_same b<|cN o.g,hl,c,fun i q x h1 h2=>⟨(d i q x h1 h2).1,Cz (cN o.g) (d i q x h1 h2).2⟩⟩,fun q hq=>ax hq⟩
theorem EVp.ev[Mono R]{m:Res (List<|(Int×Int)×α)}(h:EVp prog w K Er t σ W R m):EV Er t σ W (sh<|isPD prog w K R) m:=fun W1 e1 Q k=>h W1 e1 Q (k.imp fun xs kx p W2 e2 hp o=>by
 obtain⟨W3,hH,e3,_,r,_⟩:=o.frz e2 hp;rw[<-hH];exact kx (.ref p) W3 e3 r)
theorem kg[Mono R]{mk:Res (Int×Int)}{mv:Res α}{D:Addr}(eb:Ext Wb W)(hD:Wb.H D=none)(h:EV Er tk σ W (sh<|isT2 K isI isI) mk)(h':EV Er tv σ W (sh R) mv):BV Er (p8 prog w K tk tv) σ Wb W (OwP prog w K R) D (fun kvs=>mk.bind fun k=>mv.bind fun a=>jZ kvs k a):=fun W1 xs N e1 o k=>
 h W1 e1 _ ((CA k).imp fun b kb x W2 e2 hx=>h' W2 (e1.trans e2) _ ((CA kb).imp fun a ka v W3 e3 hv=>by
  obtain⟨h3,h4⟩:=aW ka;have o':=o.mono (e2.trans e3);obtain⟨ob,vs,o1,lo,o2,hl,o3,o4⟩:=o'.h;obtain⟨p1,p2⟩:=uY o3 o4 (k:=b) hv;have e:=(e1.trans e2).trans e3;obtain⟨q,x1,x2,rfl,t1,r1,r2⟩:=hx;cases r1;cases r2;refine⟨W3.G,vs,q,b,⟨ob,W3.ok,o1,lo,o2,hl⟩,by omega,rfl,EA e3.g t1,fun o2' d'=>?_⟩;exact h4 (W3.mut D (XO D o2') o'.g) (e2.trans e3).g ((eb.trans e).mut hD o'.g) ⟨o'.g,o2',_,aG,lo,d',by have:=uZ (kvs:=xs) (k:=b) (a:=a);omega,p1,p2⟩))
theorem kq{R0:Rp β}[Mono R]{cap:List (Option Nat)}{wi:TI}{g:TG}{tf:TT}{t:TB}{mi:Res (List β)}{f:β->List ((Int×Int)×α)->Res (List<|(Int×Int)×α)}(hi:IV Er wi σ W R0 mi)
  (hs:∀Wb D W2 a v s(M:Hp->Prop),Same W.G W2.G->Ext W Wb->Wb.H D=none->Ext Wb W2->OwP prog w K R W2 D s->R0 W2.G a v->(f a s).OkE Er (fun s'=>∀W',Same W2.G W'.G->Ext Wb W'->OwP prog w K R W' D s'->M W'.H)->g v (aZ cap σ) W2.H fun σ2 H2=>Keep (aZ cap σ) σ2/\tf σ2 H2 fun b H3=>if b=true then t D σ2 H3 M else M H3):
  EVp prog w K Er (vd cap wi g tf t) σ W R (mi.bind fun xs=>bR f xs []):=fun W1 e1 Q k=>
 hi W1 e1 _ ((CA k).imp fun xs kx J W2 e2 hy D hD lo=>by
  refine mm (W:=W2) (W1:=W2.mut D (XO D k9) (W2.gnone hD)) (Wb:=W2) (O:=OwP prog w K R) (s0:=[]) hy (.inr (.refl _)) (.own _ hD) ⟨W2.gnone hD,k9,[],aG,lo,uX ..,by decide,rfl,fun i q x h=>by simp at h⟩ (fun W3 a v s M e3 eb3 o3 r k3=>hs W2 D W3 a v s M ((e1.trans e2).g.trans e3) (e1.trans e2) hD eb3 o3 r k3) (fun _ _ _ e o=>o.mono e) ?_;exact kx.imp fun s' ks W' z1 z2 z3=>ks D W' (e2.trans z2) (bg e2.h hD) z3)
theorem ku{H:Hp}:∀(vs:List ((Int×Int)×V))(kvs:List ((Int×Int)×α)),vs.length=kvs.length->(∀(i:Nat)(q:(Int×Int)×V)(x:(Int×Int)×α),vs[i]? =some q->kvs[i]? =some x->q.1=x.1/\R H x.2 q.2)->∀k,(match look kvs k with|none=>gK vs k=none|some a=>∃v,gK vs k=some v/\R H a v)
 | [],[],_,_,k=>rfl
 | [],_::_,h,_,_=>by simp at h
 |_::_,[],h,_,_=>by simp at h
 |q::vs,x::kvs,hl,h,k=>by
  obtain⟨h1,h2⟩:=h 0 q x rfl rfl;have ih:=ku vs kvs (by simpa using hl) (fun i q x a b=>h (i+1) q x a b) k;by_cases e:x.1=k
  ·have a:look (x::kvs) k=some x.2:=by simp[look,EH,e]
   rw[a,fX<|h1.trans e];exact⟨q.2,rfl,h2⟩
  ·have a:look (x::kvs) k=look kvs k:=by simp[look,EH,e]
   rw[a,fY<|fun z=>e<|h1.symm.trans z];exact ih
theorem jg[Mono R]{md:Res (List<|(Int×Int)×α)}{mk:Res (Int×Int)}(hd:EV Er td σ W (sh<|isPD prog w K R) md)(hk:EV Er tk σ W (sh<|isT2 K isI isI) mk):EV Er (vb prog w K td tk) σ W (sh R) (md.bind fun d=>mk.bind fun k=>getD d k):=fun W1 e1 Q k=>
 hd W1 e1 _ ((CA k).imp fun d kd x W2 e2 hx=>hk W2 (e1.trans e2) _ ((CA kd).imp fun b kb y W3 e3 hy=>by
  obtain⟨p,o,vs,rfl,h1,h2,h3,h4,h5,h6⟩:=(Cz (R:=isPD prog w K R) e3.g hx)
  obtain⟨q,x1,x2,rfl,t1,r1,r2⟩:=hy;cases r1;cases r2;obtain⟨a,ha,ka⟩:=fz kb;have lr:=ku vs d h5 h6 b;rw[ha]at lr;obtain⟨v,hv,rv⟩:=lr;exact⟨W3.G,p,vs,q,b,v,rfl,⟨o,W3.ok,W3.ok _ _ h1,h2,h3,h4⟩,rfl,t1,hv,ka v W3 (e2.trans e3) rv⟩))
theorem nN[Mono R]{md:Res (List<|(Int×Int)×α)}{mk:Res (Int×Int)}{mz:Res α}(hd:EV Er td σ W (sh<|isPD prog w K R) md)(hk:EV Er tk σ W (sh<|isT2 K isI isI) mk)(hz:EV Er tv σ W (sh R) mz):EV Er (vc prog w K td tk tv) σ W (sh R) (md.bind fun d=>mk.bind fun k=>mz.bind fun z=>.ok<|kf d k z):=fun W1 e1 Q k=>
 hd W1 e1 _ ((CA k).imp fun d kd x W2 e2 hx=>by
  obtain⟨p,o,vs,rfl,h1,h2,h3,h4,h5,h6⟩:=id hx;refine⟨p,rfl,hk W2 (e1.trans e2) _<|(CA kd).imp fun b kb y W3 e3 hy=>hz W3 ((e1.trans e2).trans e3) _<|(CA kb).imp fun z kz u W4 e4 hu=>?_,o,vs,W2.G,⟨W2.ok,W2.ok _ _ h1,h2,h3⟩⟩;have e34:=e3.trans e4;obtain⟨q,x1,x2,rfl,t1,r1,r2⟩:=hy;cases r1;cases r2;have lr:=ku vs d h5 (fun i q x a b=>⟨(h6 i q x a b).1,Cz (R:=R) e34.g (h6 i q x a b).2⟩) b;refine⟨W4.G,vs,q,b,⟨o,W4.ok,W4.ok _ _<|e34.g _ _ h1,h2,dictP_same h3 e34.g,h4⟩,rfl,EA e4.g t1,?_⟩;have kz:∀v W',Ext W1 W'->sh R W' (kf d b z) v->Q v W'.H:=kz;refine kz _ W4 (e2.trans e34) ?_;unfold kf;cases ha:look d b with
  |none=>
   rw[ha]at lr;have lr:gK vs b=none:=lr;rw[lr];exact hu
  |some a=>
   rw[ha]at lr;obtain⟨v,hv,rv⟩:=lr;rw[hv];exact rv)
theorem vf[Mono R]{m:Res (List<|(Int×Int)×α)}(h:EV Er t σ W (sh<|isPD prog w K R) m):IV Er (p7 prog w K t) σ W (isT2 K isI isI) (m.bind fun d=>.ok (d.map (·.1))):=fun W1 e1 P k=>
 h W1 e1 _ ((CA k).imp fun d kd x W2 e2 hx=>by
  obtain⟨p,o,vs,rfl,h1,h2,h3,h4,h5,h6⟩:=hx;refine⟨W2.G,p,o,vs,rfl,W2.ok,W2.ok _ _ h1,h2,h3,fun es ep hdat hs at_=>kd _ W2 e2 fun W3 e3=>⟨fun i a ha=>?_,W3.ok _ _<|e3 _ _ h1,by rw[Dc,hs,h5]⟩⟩;rw[CQ]at ha;obtain⟨x,hx,rfl⟩:=DM.mp ha;have hi:i<es.size:=by have:=(CL.mp hx).1;omega
  have hv:i<vs.length:=by omega
  refine⟨⟨W3.ok _ _<|e3 _ _ h1,hi⟩,fun y H'⟨z1,e,he,ry⟩=>⟨W3,z1.symm,.refl _,?_⟩⟩;obtain⟨b,hb,hq⟩:=at_ i e _ he<|CJ hv;have:=(h6 i _ x (CJ hv) hx).1;rw[this]at hq;rw[hb]at ry;have:y=.ref b:=by
   cases y<;>first|(cases ry;rfl)|(obtain⟨_,z⟩:=ry;cases z)|cases ry
  subst this;exact⟨b,_,_,rfl,EA e3 hq,rfl,rfl⟩)
end
end Wb
open Wb.EVp renaming ev->Nc
namespace L2
open PySem PySem.Spec PyProof.Rows Wb
theorem zf:isSubtype (G6 "range_iterator") (G6 "reversed")=pure false:=by rfl
section
variable{prog:CT}{w:D6}{A:Dr}{E:CD->CH->Prop}{s:CH}
theorem gC{r:Addr}{n:Int}{t u v:Tok}{Q:CD->CH->Prop}(hr:IsRange s.heap r 0 n 1 t u v)(h0: -(2^61)<=n)(h1:n<2^61)
  (hQ:Q (.ref s.heap.objs.size) {s with heap:=s.heap.push {cls:=.type "range_iterator",data:=.fields #[rawInt (0+(Ec 0 n 1-1)*1),rawInt<|Ec 0 n 1,rawInt<|-1]}}):wpAny (model prog w) A (call (.type "reversed") [.ref r]) Q E s:=by
 have hT:s.TypeIs (.ref r) "range":=⟨_,hr,rfl⟩
 refine callType_other (U:="range_iterator") (Q₁:=fun obj s1=>s1.TypeIs obj "range_iterator"/\Q obj s1) rfl F.create_reversed ⟨_,_,F.mro_reversed⟩ F.made_reversed zf (F.typeCall_reversed_1 _) (Jv F.plain_reversed_new F.entry_reversed_new ?_)<|fun obj s1 h=>h;rw[F.newCall_reversed_1];refine CG ?_;unfold Fq.«reversed.__new__»;rw[newClass_reversed];refine Cy<|CG ?_;show wpAny _ _ (Kd "reversed" _ _>>=_) _ _ s;refine Cy<|CG ?_;refine Cy (m:=checkCount "reversed" 1 1 _)<|CG ?_;show wpAny _ _ (specialOf (.ref r) (CI "__reversed__")>>=_) _ _ s;refine Cy<|Gm hT Jj.lookup ?_;show wpAny _ _ (bindSpecial (.builtin "range.__reversed__") (.ref r)>>=_) _ _ s;have hb:bindSpecial (.builtin "range.__reversed__") (.ref r)=pure (.builtin "range.__reversed__",[.ref r]):=by
  unfold bindSpecial;rw[F.type_range_reversed];rfl
 rw[hb];refine Cy<|CG ?_;show wpAny _ _ (rule "reversed.__new__.own-method">>=_) _ _ s;refine Cy<|FV ?_;show wpAny _ _ (call (.builtin "range.__reversed__") [.ref r]>>=_) _ _ s;refine Cy<|Dy Jj hT F.entry_range_reversed ?_<|F.args_range_reversed_1 _;unfold Fq.«range.__reversed__»;refine Cy (m:=selfOnly "range.__reversed__" _)<|CG ?_;show wpAny _ _ (HU (.ref r)>>=_) _ _ s;refine Cy ?_;unfold HU;refine Cy<|Dl hr rfl (x:=.int 0 t) rfl<|Cy (m:=asInt? _)<|CG ?_;refine Cy<|Dl hr rfl (x:=.int n u) rfl<|Cy (m:=asInt? _)<|CG ?_;refine Cy<|Dl hr rfl (x:=.int 1 v) rfl<|Cy (m:=asInt? _)<|CG ?_;refine CG ?_;have hs:(E8 0&&E8 n&&E8 1&&E8 (-1)&&E8 (0-1)&&E8 (Ec 0 n 1))=true:=by
  have e:Ec 0 n 1=if 0<n then n else 0:=by
   unfold Ec;rw[if_pos (by decide)];split;·rw[Mg];omega
   ·rfl
  unfold E8;rw[e];simp only[Ge,decide_eq_true_eq];refine⟨⟨⟨⟨⟨by decide,by omega,by omega⟩,by decide⟩,by decide⟩,by decide⟩,?_,?_⟩<;>split<;>omega
 dsimp only;rw[hs];show wpAny _ _ (newFields "range_iterator" _>>=_) _ _ s;unfold newFields;refine Cy<|DK<|CG ⟨_,rfl,CG ?_⟩;exact⟨⟨_,CM _ rfl,rfl⟩,hQ⟩
end
section
variable{X:Cx}{tg:Expr}
def AA(n:Nat):It:=⟨fun i _=>i<n,fun i H x H'=>H'=H/\x=.int ((n:Int)-1-i),fun i _=>n<=i⟩
theorem nO{P:CT}{w:D6}{K:CF}{tg:Expr}(it:Addr)(n:Nat):Turn P w K tg (AA n) [it] it (fun i h=>Jm h it (((n:Int)-1)+i*(-1)) ((n:Int)-i)<|-1) where
 mem:=by simp
 obj:=fun i h st b hb=>by
  have e:b=it:=by simpa using hb
  subst e;exact⟨_,st,fun v z=>by
   have z':Hi _=FG v:=z;cases z'⟩
 keep:=fun i h h' st k=>k it (by simp) _ st
 item:=by
  intro X hP hw hK hc i pins s σ H E I hf st hg;subst hP hw hK;obtain⟨f0,f1,f2,f3,f4,f5⟩:=hf it (by simp);have W:=Walks.range (prog:=X.prog) (w:=X.w) (I.ok.hd hc) it ((n:Int)-1) (-1) n;refine W.item i s _ _ hg st fun v h' tk hv st' kk=>?_;obtain⟨t,rfl⟩:=hv;have I1:Inv X pins σ H {s with heap:=h',toks:=tk}:=I.turned (fun b o hb e=>kk b o (by simpa using hb) e) f0 f1 f3 f4 f5;refine⟨_,rfl,kY (s:={s with heap:=h',toks:=tk}) (n:="range_iterator") st' rfl rfl (by decide) ⟨.int<|(n:Int)-1-i,H,I1,⟨t,?_⟩,⟨rfl,rfl⟩,st',fun b hb=>(hf b hb).1⟩⟩;congr 1;omega
 done:=by
  intro X hP hw hK hc i pins s σ H E I hf st hg;subst hP hw hK;obtain⟨f0,f1,f2,f3,f4,f5⟩:=hf it (by simp);exact IJ (I.ok.hd hc) st (by have:n<=i:=hg;omega) fun h' eb=>⟨rfl,I.turned (t':=s.toks) (fun b o hb e=>eb b o hb e) f0 f1 f3 f4 f5⟩
 self:=fun _ _ _ _ _ st h=>GC st h
theorem ig{P:CT}{w:D6}{K:CF}{o i:Expr}{pos:Pos}{td ty:TE}(hP:X.prog=P)(hw:X.w=w)(hK:X.K=K)(hu:X.A.units+1<cLine)(ho:PE X o td)(hi:PE X i ty)(hs:sS i):PE X (.Subscript o i pos) (vb P w K td ty):=by
 subst hP hw hK;exact wY hu ho hi hs
theorem sk{P:CT}{w:D6}{K:CF}{l:Expr}{tl:TE}(hP:X.prog=P)(hw:X.w=w)(hK:X.K=K)(hl:PE X l tl):PI X tg l (p7 P w K tl):=by
 subst hP hw hK;exact va hl
def xZ(ta:TA):TI:=fun σ H R=>ta σ H fun vs H1=>∃j:Int,vs=[.int j]/\ -(2^61)<=j/\j<2^61/\R (AA j.toNat) H1
theorem p9(n:Int):Ec 0 n 1=(n.toNat:Int):=by
 unfold Ec;rw[if_pos (by decide)];split;·rw[Mg];omega
 ·omega
theorem sm{a:Expr}{ta:TA}{p p2 pos pos2:Pos}(hg:Gl X "reversed")(hm:X.mg "reversed"=none)(hg2:Gl X "range")(hm2:X.mg "range"=none)(ha:PA X [a] ta)
  (hs0:starEach [.Call (.Name "range" p2) [a] [] pos2] X.env=[(false,eval (.Call (.Name "range" p2) [a] [] pos2) X.env)]:=by rfl)
  (hs:starEach [a] X.env=[(false,eval a X.env)]:=by rfl):PI X tg (.Call (.Name "reversed" p) [.Call (.Name "range" p2) [a] [] pos2] [] pos) (xZ ta):=by
 intro pins s σ H R I h;refine Mt<|fh I hg hm boot_reversed<|E7 ?_ hs0 rfl;rw[hs0];show wpAny _ _ (spliced ((false,eval (.Call (.Name "range" p2) [a] [] pos2) X.env)::[])) _ _ s;refine JQ ?_;refine Mt<|fh I hg2 hm2 boot_range<|E7 (bF (ha pos2 pins s σ H _ I h) fun us s1⟨vs,H1,I1,r1,q1⟩=>?_) hs rfl;obtain⟨j,e,q1,q2,q⟩:=q1;subst e;cases r1 with
 |cons r rr=>
  cases rr;obtain⟨t,rfl⟩:=r;refine call_range_1<|Ki ?_;refine gC (Ms ..) q1 q2 ?_;rw[p9];have st:∀h:Heap,Jm (h.push {cls:=.type "range_iterator",data:=.fields #[rawInt (0+((j.toNat:Int)-1)*1),rawInt (j.toNat:Int),rawInt<|-1]}) h.objs.size (((j.toNat:Int)-1)+((0:Nat):Int)*(-1)) ((j.toNat:Int)-((0:Nat):Int)) (-1):=fun h=>by
   have e1:((j.toNat:Int)-1)+((0:Nat):Int)*(-1)=0+((j.toNat:Int)-1)*1:=by omega
   have e2:(j.toNat:Int)-((0:Nat):Int)=(j.toNat:Int):=by omega
   rw[e1,e2];exact CM _ rfl
  refine GC (st _) ?_;refine⟨_,[_],_,_,H1,rfl,I1.kept<|fun b o e=>CB _<|CB _ e,nO _ j.toNat,st _,fun b hb=>?_,q⟩;have e:=FY.mp hb;subst e;have hle:∀o:Obj,s1.heap.objs.size<=(s1.heap.push o).objs.size:=fun o=>by rw[DJ];exact G9 _
  exact I1.fpOk (hle _)<|I1.hok.fresh<|hle _
end
end L2
namespace Wb
open PySem L2 Mi
section
variable{Er:Nat->Prop}{W:Wd}{σ:St}{ta:TE}
theorem so{m:Res Int}(h:EV Er ta σ W (sh isI) m):IV Er (xZ<|ak ta aQ) σ W isI (m.bind fun i=>my i):=fun W1 e1 P k=>
 h W1 e1 _ ((CA k).imp fun i ki v W2 e2 hv=>by
  cases hv;obtain⟨⟨h1,h2⟩,h3⟩:=aW ki;refine⟨i,rfl,h1,h2,h3 _ W2 e2 fun W3 e3=>⟨fun j a ha=>?_,?_⟩⟩
  ·unfold eY at ha;have hj:j<i.toNat:=by
    have:=(CL.mp ha).1;simpa using this
   rw[Fs (by simpa using hj),Dc,I9,CQ,F0 (by omega)]at ha;cases ha;refine⟨hj,fun y H'⟨z1,z2⟩=>⟨W3,z1.symm,.refl _,?_⟩⟩;rw[z2];show FO _=FO ((i.toNat-1-j:Nat):Int);congr 1;omega
  ·show i.toNat<=(eY i).reverse.length;unfold eY;simp)
end
end Wb
namespace L2
open PySem PySem.Spec PyProof.Rows
def BN:zV:=fun x y H Q=>∃i j,x=.str i/\y=.str j/\i.length+j.length<=sizeLine/\Q (.str<|i++j) H
theorem wZ{X:Cx}:AK X .Add BN:=mQ
section
variable{X:Cx}
theorem eU(i:Nat){x:Str}{pos:Pos}(hN:X.N.Nodup:=by exact MV (by assumption))(hi:X.N[i]? =some x:=by rfl)(hx:xK X.env.scope x:=by first|exact GH rfl|exact Gv rfl)(hf:X.fn x=true\/X.env.scope.names.lookup x=some .local:=by first|exact .inl rfl|exact .inr rfl|assumption):PG X (.Name x pos) (aV i):=bo hN hi hx hf
theorem dn(i:Nat){x:Str}{e:Expr}{te:TE}{pos pos':Pos}(he:PE X e te)(hN:X.N.Nodup:=by exact MV (by assumption))(hi:X.N[i]? =some x:=by rfl)(hx:xK X.env.scope x:=by first|exact GH rfl|exact Gv rfl)(hs:swapsWith e (some<|.Name x pos') pos.line X.env=pure false:=by rfl)(hf:X.fn x=true\/X.env.scope.names.lookup x=some .local:=by first|exact .inl rfl|exact .inr rfl|assumption):PS X (.Assign [.Name x pos'] e pos) (bP te<|aV i):=fq hN hi hx he hs hf
theorem di{x:Str}{ps:List Str}{k:Nat}{sp:Sp}{p pos:Pos}{e:Expr}{es:List Expr}{t:TA}(C:Cal X.prog X.w X.K X.mg X.base x ps k sp)(ha:PA X (e::es) t)(hr:Room k X.A:=by exact Room.mono (by assumption) (by decide))(hg:Gl X x:=by rfl)
  (hdb:(x==("__debug__" :Str))=false:=by decide) (he:starEach (e::es) X.env=(false,eval e X.env)::starEach es X.env:=by rfl) (hpl:(backTo pos<|starEach es X.env).any (·.1)=false:=by rfl):PE X (.Call (.Name x p) (e::es) [] pos) (aN sp [] E0 t):=tu C hr hg ha hdb he hpl
end
end L2
namespace Wb
open PySem L2 Mi
section
variable{Er:Nat->Prop}{W:Wd}{σ:St}{te:TE}{D:Ends}{r:TS}{i:Nat}
theorem x3{a:Tx}{m:Res Tx}{σ':Tx->St}(h:EV Er te σ W (sh isS) m)(q:(m.bind fun b=>fB a b).OkE Er fun c=>∀W',Ext W W'->D.nx (σ' c) W'.H)(hi:σ[i]? =some (some<|.str<|sOf a):=by rfl)(hσ:∀c,σ.set i (some<|.str<|sOf c)=σ' c:=by intro _;rfl):vX i te BN D σ W.H:=
 ⟨.str<|sOf a,hi,h W (.refl _) _ ((CA q).imp fun b kb v W' e hv=>by
  cases hv;obtain⟨h3,h4⟩:=aW kb;refine⟨sOf a,sOf b,rfl,rfl,?_,?_⟩;·rw[cu,cu,E6];unfold Mi.cap at h3;omega
  ·have:=h4 W' e;rw[<-hσ,<-fv]at this;exact this)⟩
theorem bh{i:Nat}{a:Int}(h:σ[i]? =some (some<|.int a):=by rfl):EV Er (bL i) σ W (sh isI) (.ok a):=d4 (R:=sh isI) (v:=.int a) rfl h
theorem cR{i:Nat}{a:Tx}(h:σ[i]? =some (some<|.str<|sOf a):=by rfl):EV Er (bL i) σ W (sh isS) (.ok a):=d4 (R:=sh isS) (v:=.str<|sOf a) rfl h
theorem BO{i:Nat}{a:Bool}(h:σ[i]? =some (some<|.bl a):=by rfl):EV Er (bL i) σ W (sh isB) (.ok a):=d4 (R:=sh isB) (v:=.bl a) rfl h
theorem aX{α:Type}{R:Rp α}[Mono R]{i:Nat}{a:α}{v:V}(r:R W.G a v)(h:σ[i]? =some (some v):=by rfl):EV Er (bL i) σ W (sh R) (.ok a):=d4 (R:=sh R) r h
end
abbrev qA(K:CF):=isT3 K isS isS isI
abbrev qB(K:CF):=isT3 K isS isS isS
abbrev qC(K:CF):=isT2 K isI isI
abbrev qD(K:CF):=isL<|qB K
abbrev qE(K:CF):=isL<|qC K
def DI(K:CF)(x:Str)(st:Stmt)(ps:List Str):Prop:=∃f fd,Fun K x x st f fd/\D4 K mainGlobals x=some (some<|.ref f)/\Binds K fd ps []
section
variable{P:CT}{w:D6}{K:CF}{mg:Str->Option CD}{base h:Heap}{x:Str}{st:Stmt}{ps:List Str}{n:Nat}{sp:Sp}{f:Addr}
def AB:List Str->List CD->List CD
 | [],_=>[]
 |_::r,us=>us.headD .none::AB r us.tail
theorem vg:∀(ps:List Str)(us:List CD),us.length=ps.length->AB ps us=us
 | [],us,h=>(List.eq_nil_of_length_eq_zero h).symm
 |_::r,[],h=>by cases h
 |_::r,a::us,h=>by
  show a::AB r us=_;rw[vg r us<|Nat.succ.inj h]
theorem DI.mk{oc:CD}{od an:Option Addr}{osl:Array (Option CD)}{kV doc pm cdv ct:CD}(da:D4 K mainGlobals x=some (some<|.ref f))(dl:K.lookup f=some ⟨oc,od,.func<|ET x x (defArgs st) (defBody st) (defScope st) .none kV doc pm an cdv ct,osl⟩)
  (dc:FI K cdv x=true) (dk:EE K (.ref f)=true) (db:∀(kV doc pm:CD)(an:Option Addr)(cdv ct:CD)(us:List CD),bindArgs (ET x x (defArgs st) (defBody st) (defScope st) .none kV doc pm an cdv ct) ⟨AB ps us,[]⟩=pure (ps.zip<|AB ps us)):DI K x st ps:=
 ⟨f,_,jt dl dc dk,da,(jt dl dc dk).binds fun kV doc pm an cdv ct us hl=>by
  have:=db kV doc pm an cdv ct us;rw[vg ps us hl]at this;exact this⟩
theorem DI.cal(d:DI K x st ps)(X:K.In h)(G:h.Ns mainGlobals mg)(r:∀{f fd},Fun K x x st f fd->FnOk P w K mg base CX0 n f fd ps sp):Cal P w K mg base x ps n sp:=by
 obtain⟨f,fd,F,a,b⟩:=d;exact⟨f,fd,r F,Dt X G a,F.kp,b⟩
theorem DI.calR(d:DI K x st ps)(X:K.In h)(G:h.Ns mainGlobals mg)(r:∀{f fd},Fun K x x st f fd->FnOk P w K mg base (CXR P w) n f fd ps sp):CalR P w K mg base x ps n sp:=by
 obtain⟨f,fd,F,a,b⟩:=d;exact⟨f,fd,r F,Dt X G a,F.kp,b⟩
end
end Wb
namespace L2
open PySem PySem.Spec PyProof.Rows Wb
end L2
namespace Wb
open PySem L2 Mi
end Wb
namespace Mi
noncomputable section
@[irreducible]noncomputable def AR(Z0s:List Int)(l_k:Int):Res Int:=if(decide<|l_k<(Z0s.length:Int))then fA Z0s l_k else(jA ((l_k*48271)+(11:Int))<|(Z0s.length:Int)+(7:Int)).bind fun y8=>CK<|y8%1000003
def iw(Z0s:List Int)(l_k:Int):Res Int:=AR Z0s l_k
@[irreducible]noncomputable def zH(Z05:Int)(Z1n:Int)(a19:Int)(s20:(Int×Int×(List Int))):Res (Int×Int×(List Int)):=((if(decide<|(1000000000000000000:Int)<=eE Z05)then CK (decide<|(0:Int)<s20.2.1)else CK false).bind fun y45=>(if y45 then((kO s20.2.1 Z1n).bind fun y56=>iC s20.2.2 y56).bind fun y55=>(jB s20.2.1 Z1n).bind fun y59=>CK (y59,y55)else((((jA ((((s20.1*48271)+(7919:Int))+a19)%2147483647)<|(((s20.1*48271)+(7919:Int))+a19)%2147483647).bind fun y63=>CK<|y63%1000003).bind fun y64=>kO y64 Z1n).bind fun y69=>iC s20.2.2 y69).bind fun y68=>CK (s20.2.1,y68):Res (Int×(List Int)))).bind fun s70=>CK (((((s20.1*48271)+(7919:Int))+a19)%2147483647),s70.1,s70.2)
@[irreducible]noncomputable def AS(Z05:Int)(Z0r:Int)(Z1n:Int):Res (List Int):=((fC Z0r).bind fun y78=>bR (zH Z05 Z1n) y78 (((eE Z05)%2147483647),eE Z05,([]:List Int))).bind fun s79=>CK s79.2.2
def kH(Z05:Int)(Z0r:Int)(Z1n:Int):Res (List Int):=AS Z05 Z0r Z1n
@[irreducible]noncomputable def zI(y3:Int)(y8:List Int)(a15:Int)(s16:Tx):Res Tx:=(((((fA y8 (4:Int)).bind fun y39=>((kO a15 y3).bind fun y38=>CK<|y38*7).bind fun y40=>CK<|y39+y40).bind fun y41=>CK<|y41%26).bind fun y42=>fS ([97,98,99,100,101,102,103,104,105,106,107,108,109,110,111,112,113,114,115,116,117,118,119,120,121,122]:Tx) y42).bind fun y43=>fB s16 y43).bind fun y44=>CK y44
@[irreducible]noncomputable def AU(kH:Int->Int->Int->Res (List Int))(Z05:Int):Res Tx:=(fA [(1:Int),(2:Int),(3:Int),(4:Int),(26:Int)]<|Z05%5).bind fun y3=>(kH (Z05/5) (5:Int) (26:Int)).bind fun y8=>(bR (zI y3 y8) (cut y8 none<|some (4:Int)) ([]:Tx)).bind fun s47=>CK s47
def x4(Z05:Int):Res Tx:=AU kH Z05
@[irreducible]noncomputable def AW(x4:Int->Res Tx)(Z05:Int):Res Cd:=(fS ([83,90]:Tx)<|Z05%2).bind fun y1=>(x4<|Z05/8).bind fun y2=>CK (y1,y2,((Z05/2)%4))
def vR(Z05:Int):Res Cd:=AW x4 Z05
@[irreducible]noncomputable def AX(kH:Int->Int->Int->Res (List Int))(Z05:Int)(Z0r:Int):Res Tx:=if(decide<|(Z05%7)=(3:Int))then(fS ([102,98,105]:Tx)<|(Z05/7)%3).bind fun y3=>yB y3 Z0r else((kH (Z05/7) Z0r (3:Int)).bind fun y18=>fb y18<|fun(a9:Int)=>fS ([102,98,105]:Tx) a9).bind fun y19=>n9 y19
def x5(Z05:Int)(Z0r:Int):Res Tx:=AX kH Z05 Z0r
@[irreducible]noncomputable def AY(Z0V:Tx):Res Int:=(j5 ([98,105,102]:Tx) Z0V).bind fun y1=>CK<|y1-(1:Int)
def oj(Z0V:Tx):Res Int:=AY Z0V
@[irreducible]noncomputable def AZ(oj:Tx->Res Int)(Z01:Cd)(Z0V:Tx):Res Cd:=(((oj Z0V).bind fun y1=>CK<|Z01.2.2+y1).bind fun y2=>CK<|y2%4).bind fun y3=>CK (Z01.1,Z01.2.1,y3)
def jh(Z01:Cd)(Z0V:Tx):Res Cd:=AZ oj Z01 Z0V
@[irreducible]noncomputable def B1(oj:Tx->Res Int)(Z01:Cd)(Z0V:Tx):Res Int:=if(decide<|Z01.1=([83]:Tx))then oj Z0V else(oj Z0V).bind fun y8=>CK<|(0:Int)-y8
def j6(Z01:Cd)(Z0V:Tx):Res Int:=B1 oj Z01 Z0V
@[irreducible]noncomputable def zJ(jh:Cd->Tx->Res Cd)(j6:Cd->Tx->Res Int)(a7:Tx)(s8:(Cd×(List Pl))):Res (Cd×(List Pl)):=(jh s8.1 a7).bind fun y34=>(((j6 y34 a7).bind fun y39=>CK<|y39+(1:Int)).bind fun y40=>fS ([122,111,115]:Tx) y40).bind fun y41=>(((fS y34.2.1 y34.2.2).bind fun y44=>(fS y34.2.1<|(y34.2.2+(2:Int))%4).bind fun y45=>CK (y44,y45,y41)).bind fun y50=>iC s8.2 y50).bind fun y49=>CK (y34,y49)
@[irreducible]noncomputable def B2(jh:Cd->Tx->Res Cd)(j6:Cd->Tx->Res Int)(Z01:Cd)(Z06:Tx):Res (List Pl):=(bR (zJ jh j6) (bH Z06) (Z01,([]:List Pl))).bind fun s51=>CK s51.2
def pb(Z01:Cd)(Z06:Tx):Res (List Pl):=B2 jh j6 Z01 Z06
@[irreducible]noncomputable def zK(Z05:Int)(a14:Pl×Int)(s15:(List Pl)):Res (List Pl):=(if(decide<|(Z05%5)=(0:Int))then CK ((a14.2/8)*8)else CK a14.2:Res Int).bind fun s56=>(if(decide<|(Z05%5)=(1:Int))then CK (((s56/8)*8)+(7:Int))else CK s56:Res Int).bind fun s75=>((if(decide<|(56:Int)<=s75)then CK (decide<|(s75%3)<(2:Int))else CK false).bind fun y90=>(if y90 then(((((fA [a14.1.1,a14.1.2.1,a14.1.2.2]<|s75%3).bind fun y101=>j5 ([97,98,99,100,101,102,103,104,105,106,107,108,109,110,111,112,113,114,115,116,117,118,119,120,121,122,97]:Tx) y101).bind fun y102=>CK<|y102+(1:Int)).bind fun y103=>fS ([97,98,99,100,101,102,103,104,105,106,107,108,109,110,111,112,113,114,115,116,117,118,119,120,121,122,97]:Tx) y103).bind fun y107=>n6 [a14.1.1,a14.1.2.1,a14.1.2.2] (s75%3) y107).bind fun y108=>CK y108 else CK [a14.1.1,a14.1.2.1,a14.1.2.2]:Res (List Tx))).bind fun s110=>((if(decide<|(56:Int)<=s75)then CK (decide<|(s75%3)=(2:Int))else CK false).bind fun y120=>(if y120 then((((fA s110 (2:Int)).bind fun y127=>j5 ([115,122,111]:Tx) y127).bind fun y128=>fS ([122,111,115]:Tx) y128).bind fun y132=>n6 s110 (2:Int) y132).bind fun y133=>CK y133 else CK s110:Res (List Tx))).bind fun s135=>(((fb (s135.zip [(1:Int),(2:Int),(4:Int)]) (fun(a149:Tx×Int)=>(((jB s75 a149.2).bind fun y158=>CK<|y158%2).bind fun y159=>CK<|decide<|y159=(1:Int)).bind fun y160=>if y160 then CK a149.1 else CK ([63]:Tx))).bind fun y163=>yD y163).bind fun y168=>iC s15 y168).bind fun y167=>CK y167
@[irreducible]noncomputable def B3(kH:Int->Int->Int->Res (List Int))(Z1o:List Pl)(Z05:Int)(Z1y:Bool):Res (List Pl):=(((jA (8:Int) (if Z1y then(1:Int)else 0)).bind fun y9=>CK<|(56:Int)+y9).bind fun y10=>kH (Z05/5) (Z1o.length:Int) y10).bind fun y11=>(bR (zK Z05) (Z1o.zip y11) ([]:List Pl)).bind fun s169=>CK s169
def x6(Z1o:List Pl)(Z05:Int)(Z1y:Bool):Res (List Pl):=B3 kH Z1o Z05 Z1y
@[irreducible]noncomputable def B4(Z01:Cd):Res Cd:=((j5 ([83,90]:Tx) Z01.1).bind fun y5=>fS ([90,83]:Tx) y5).bind fun y12=>((((fS Z01.2.1 (0:Int)).bind fun y6=>(fS Z01.2.1 (3:Int)).bind fun y7=>fB y6 y7).bind fun y8=>(fS Z01.2.1 (2:Int)).bind fun y9=>fB y8 y9).bind fun y10=>(fS Z01.2.1 (1:Int)).bind fun y11=>fB y10 y11).bind fun y13=>CK (y12,y13,(((0:Int)-Z01.2.2)%4))
def x8(Z01:Cd):Res Cd:=B4 Z01
@[irreducible]noncomputable def B5(Z06:Tx):Res Tx:=(fb (bH Z06)<|fun(a1:Tx)=>(j5 ([98,105,102]:Tx) a1).bind fun y8=>fS ([102,105,98]:Tx) y8).bind fun y11=>n9 y11
def x9(Z06:Tx):Res Tx:=B5 Z06
@[irreducible]noncomputable def B6(Z01:Cd)(Z0r:Int):Res Cd:=(((fC (4:Int)).bind fun y13=>fb y13<|fun(a3:Int)=>fS Z01.2.1<|(a3-Z0r)%4).bind fun y14=>n9 y14).bind fun y15=>CK (Z01.1,y15,((Z01.2.2+Z0r)%4))
def xa(Z01:Cd)(Z0r:Int):Res Cd:=B6 Z01 Z0r
@[irreducible]noncomputable def zL(a37:Int)(s38:(List Int)):Res (List Int):=(if(!s38.contains a37)then(iC s38 a37).bind fun y68=>CK y68 else CK s38:Res (List Int)).bind fun s70=>CK s70
@[irreducible]noncomputable def AD(jh:Cd->Tx->Res Cd)(a7:Tx)(s8:(Cd×(List Int))):Res (Cd×(List Int)):=(jh s8.1 a7).bind fun y34=>(bR zL [y34.2.2,((y34.2.2+(2:Int))%4)] s8.2).bind fun s78=>CK (y34,s78)
@[irreducible]noncomputable def B7(jh:Cd->Tx->Res Cd)(Z01:Cd)(Z06:Tx):Res (List Int):=(bR (AD jh) (bH Z06) (Z01,([]:List Int))).bind fun s82=>tK s82.2
def xb(Z01:Cd)(Z06:Tx):Res (List Int):=B7 jh Z01 Z06
@[irreducible]noncomputable def zM(Z05:Int)(y40:List Int)(a43:Int)(s44:Cd):Res Cd:=(if(!y40.contains a43)then((((jA (5:Int) a43).bind fun y75=>CK<|(Z05/16)+y75).bind fun y76=>CK<|y76%26).bind fun y77=>fS ([97,98,99,100,101,102,103,104,105,106,107,108,109,110,111,112,113,114,115,116,117,118,119,120,121,122]:Tx) y77).bind fun y78=>((((rn s44.2.1 none<|some a43).bind fun y83=>fB y83 y78).bind fun y84=>(rn s44.2.1 (some<|a43+(1:Int)) none).bind fun y85=>fB y84 y85).bind fun y86=>CK (s44.1,y86,s44.2.2)).bind fun y87=>CK y87 else CK s44:Res Cd).bind fun s91=>CK s91
@[irreducible]noncomputable def B8(x8:Cd->Res Cd)(x9:Tx->Res Tx)(xa:Cd->Int->Res Cd)(xb:Cd->Tx->Res (List Int))(Z01:Cd)(Z06:Tx)(Z05:Int):Res (Cd×Tx):=(if(decide<|(Z05%2)=(1:Int))then(x8 Z01).bind fun y9=>(x9 Z06).bind fun y14=>CK (y9,y14)else CK (Z01,Z06):Res (Cd×Tx)).bind fun s18=>(xa s18.1<|(Z05/2)%4).bind fun y29=>(if(decide<|((Z05/8)%2)=(1:Int))then(xb y29 s18.2).bind fun y40=>((fC (4:Int)).bind fun y101=>bR (zM Z05 y40) y101 y29).bind fun s102=>CK s102 else CK y29:Res Cd).bind fun s107=>CK (s107,s18.2)
def xc(Z01:Cd)(Z06:Tx)(Z05:Int):Res (Cd×Tx):=B8 x8 x9 xa xb Z01 Z06 Z05
@[irreducible]noncomputable def B9(vR:Int->Res Cd)(iw:List Int->Int->Res Int)(x5:Int->Int->Res Tx)(x6:(List Pl)->Int->Bool->Res (List Pl))(pb:Cd->Tx->Res (List Pl))(xc:Cd->Tx->Int->Res (Cd×Tx))(Z0s:List Int)(Z3C:Int):Res (Cd×(List Pl)×Int):=((iw Z0s (0:Int)).bind fun y3=>vR y3).bind fun y4=>((iw Z0s (1:Int)).bind fun y10=>((iw Z0s (2:Int)).bind fun y9=>kO y9<|Z3C+(1:Int)).bind fun y11=>x5 y10 y11).bind fun y12=>(iw Z0s (3:Int)).bind fun y17=>((pb y4 y12).bind fun y22=>x6 y22 (y17/3)<|decide<|(y17%3)=(2:Int)).bind fun y23=>((iw Z0s (4:Int)).bind fun y28=>CK<|y28/4).bind fun y29=>(if(decide<|(y29%6)=(1:Int))then((xc y4 y12<|y29/6).bind fun y40=>CK y40.1).bind fun y41=>CK y41 else CK y4:Res Cd).bind fun s45=>(if(decide<|(y29%6)=(2:Int))then(vR<|y29/6).bind fun y62=>CK y62 else CK s45:Res Cd).bind fun s66=>((iw Z0s (4:Int)).bind fun y75=>CK<|y75%4).bind fun y76=>CK (s66,y23,y76)
def vS(Z0s:List Int)(Z3C:Int):Res (Cd×(List Pl)×Int):=B9 vR iw x5 x6 pb xc Z0s Z3C
@[irreducible]noncomputable def zN(a34:Tx)(s35:(List Tx)):Res (List Tx):=(((fB a34 ([102]:Tx)).bind fun y62=>((fB a34 ([98]:Tx)).bind fun y60=>((fB a34 ([105]:Tx)).bind fun y59=>CK (y59::([]:List Tx))).bind fun y61=>CK (y60::y61)).bind fun y63=>CK (y62::y63)).bind fun y64=>yA s35 y64).bind fun y65=>CK y65
@[irreducible]noncomputable def AE(a5:Int)(s6:(List Tx)):Res (List Tx):=(bR zN s6 ([]:List Tx)).bind fun s68=>CK s68
@[irreducible]noncomputable def Ba(Z0r:Int):Res (List Tx):=((fC Z0r).bind fun y76=>bR AE y76 [([]:Tx)]).bind fun s77=>CK s77
def xf(Z0r:Int):Res (List Tx):=Ba Z0r
@[irreducible]noncomputable def Bb(a9:Tx)(s10:Unit):Res (Fl Bool Unit):=(if(!decide (a9=([102]:Tx)))then if(!decide (a9=([98]:Tx)))then CK (!decide (a9=([105]:Tx)))else CK false else CK false).bind fun y30=>if y30 then CK (.rt false)else CK (.nx ())
@[irreducible]noncomputable def AF(a103:Tx×Tx)(s104:Unit):Res (Fl Bool Unit):=(if(!decide (a103.2=([63]:Tx)))then CK (!decide (a103.2=a103.1))else CK false).bind fun y131=>if y131 then CK (.rt false)else CK (.nx ())
@[irreducible]noncomputable def zO(j6:Cd->Tx->Res Int)(Z01:Cd)(Z0B:Int)(Z0C:Int)(a50:Tx×Pl×Pl)(s51:Ii):Res (Fl Bool Ii):=((j6 Z01 a50.1).bind fun y87=>CK<|s51.1+y87).bind fun y88=>(jA (s51.2+(1:Int)) (if(decide<|a50.1=([105]:Tx))then(1:Int)else 0)).bind fun y93=>(if(decide<|Z0C<eE y88)then CK true else CK (decide<|Z0B<y93)).bind fun y96=>if y96 then CK (.rt false)else(dO AF ([a50.2.1.1,a50.2.1.2.1,a50.2.1.2.2].zip [a50.2.2.1,a50.2.2.2.1,a50.2.2.2.2]) ()).bind (fun | .nx s138=>(CK<|.nx (y88,y93))| .rt r=>CK (.rt r)| .bk _=>IH)
@[irreducible]noncomputable def Bc(pb:Cd->Tx->Res (List Pl))(j6:Cd->Tx->Res Int)(Z01:Cd)(Z1r:List Pl)(Z0B:Int)(Z0C:Int)(Z1z:Tx):Res Bool:=((yC Z1z).bind fun y1=>CK<|!decide (y1=(Z1r.length:Int))).bind fun y2=>if y2 then CK false else(dO Bb (bH Z1z) ()).bind (fun | .nx s37=>((((pb Z01 Z1z).bind fun y49=>CK<|(bH Z1z).zip (y49.zip Z1r)).bind fun y142=>dO (zO j6 Z01 Z0B Z0C) y142 ((0:Int),(0:Int))).bind (fun | .nx s143=>(CK true)| .rt r=>CK r| .bk _=>IH))| .rt r=>CK r| .bk _=>IH)
def xg(Z01:Cd)(Z1r:List Pl)(Z0B:Int)(Z0C:Int)(Z1z:Tx):Res Bool:=Bc pb j6 Z01 Z1r Z0B Z0C Z1z
@[irreducible]noncomputable def Bd(state:Ii)(loose:Int)(bound:Int):Res Bool:=if(decide<|eE state.1<=bound)then CK (decide<|state.2<=loose)else CK false
def nP(state:Ii)(loose:Int)(bound:Int):Res Bool:=Bd state loose bound
@[irreducible]noncomputable def Be(tablet:Cd)(turn:Tx):Res Int:=(getD ([([102],1),([98],(-1)),([105],0)]:List (Tx×Int)) turn).bind fun y3=>if(decide<|tablet.1=([83]:Tx))then CK y3 else CK (-y3)
def pf(tablet:Cd)(turn:Tx):Res Int:=Be tablet turn
@[irreducible]noncomputable def Bf(pf:Cd->Tx->Res Int)(tablet:Cd)(state:Ii)(turn:Tx):Res Ii:=((pf tablet turn).bind fun y9=>CK<|state.1+y9).bind fun y10=>(if(decide<|turn=([105]:Tx))then CK (state.2+(1:Int))else CK (0:Int)).bind fun y11=>CK (y10,y11)
def vT(tablet:Cd)(state:Ii)(turn:Tx):Res Ii:=Bf pf tablet state turn
@[irreducible]noncomputable def Bg(tablet:Cd)(twist:Int):Res Cd:=((if(decide<|tablet.1=([83]:Tx))then CK (tablet.2.2+twist)else CK (tablet.2.2-twist)).bind fun y11=>CK<|y11%4).bind fun y12=>CK (tablet.1,tablet.2.1,y12)
def xh(tablet:Cd)(twist:Int):Res Cd:=Bg tablet twist
@[irreducible]noncomputable def qI(tablet:Cd):Res Tx:=fS tablet.2.1<|tablet.2.2%4
def ij(tablet:Cd):Res Tx:=qI tablet
@[irreducible]noncomputable def Bh(tablet:Cd):Res Tx:=fS tablet.2.1<|(tablet.2.2+(2:Int))%4
def xi(tablet:Cd):Res Tx:=Bh tablet
@[irreducible]noncomputable def Bi(ij:Cd->Res Tx)(xi:Cd->Res Tx)(pf:Cd->Tx->Res Int)(tablet:Cd)(turn:Tx):Res Pl:=(ij tablet).bind fun y2=>(xi tablet).bind fun y3=>((pf tablet turn).bind fun y1=>getD ([(1,[115]),((-1),[122]),(0,[111])]:List (Int×Tx)) y1).bind fun y4=>CK (y2,y3,y4)
def xj(tablet:Cd)(turn:Tx):Res Pl:=Bi ij xi pf tablet turn
@[irreducible]noncomputable def Bj(sign:Tx)(left:Tx):Res Bool:=if(decide<|left=([63]:Tx))then CK true else CK (decide<|left=sign)
def vU(sign:Tx)(left:Tx):Res Bool:=Bj sign left
@[irreducible]noncomputable def Bk(vU:Tx->Tx->Res Bool)(place:Pl)(mark:Pl):Res Bool:=(fb ([place.1,place.2.1,place.2.2].zip [mark.1,mark.2.1,mark.2.2])<|fun(a1:Tx×Tx)=>vU a1.1 a1.2).bind fun y12=>CK<|y12.all id
def xl(place:Pl)(mark:Pl):Res Bool:=Bk vU place mark
@[irreducible]noncomputable def Bl(xl:Pl->Pl->Res Bool)(xj:Cd->Tx->Res Pl)(xh:Cd->Int->Res Cd)(tablet:Cd)(state:Ii)(turn:Tx)(mark:Pl):Res Bool:=((xh tablet state.1).bind fun y1=>xj y1 turn).bind fun y2=>xl y2 mark
def vh(tablet:Cd)(state:Ii)(turn:Tx)(mark:Pl):Res Bool:=Bl xl xj xh tablet state turn mark
@[irreducible]noncomputable def Bm(vT:Cd->Ii->Tx->Res Ii)(nP:Ii->Int->Int->Res Bool)(vh:Cd->Ii->Tx->Pl->Res Bool)(tablet:Cd)(mark:Pl)(loose:Int)(bound:Int)(state:Ii):Res (List<|Tx×Ii):=(fb (bH ([102,98,105]:Tx))<|fun(a3:Tx)=>(vT tablet state a3).bind fun y12=>CK (a3,y12)).bind fun y15=>jD y15 (fun(a18:Tx×Ii)=>((nP a18.2 loose bound).bind fun y31=>if y31 then vh tablet a18.2 a18.1 mark else CK false).bind fun y33=>if y33 then CK (some (a18.1,a18.2))else CK none)
def gA(tablet:Cd)(mark:Pl)(loose:Int)(bound:Int)(state:Ii):Res (List<|Tx×Ii):=Bm vT nP vh tablet mark loose bound state
@[irreducible]noncomputable def Bn(gA:Cd->Pl->Int->Int->Ii->Res (List<|Tx×Ii))(tablet:Cd)(mark:Pl)(loose:Int)(bound:Int)(states:List Ii):Res (List Ii):=(bR (fun(a6:Ii)(s8:List Ii)=>(gA tablet mark loose bound a6).bind fun y36=>bR (fun(a20:Tx×Ii)(s22:List Ii)=>rQ s22 a20.2) y36 s8) states ([]:List Ii)).bind fun k37=>ux k37
def ph(tablet:Cd)(mark:Pl)(loose:Int)(bound:Int)(states:List Ii):Res (List Ii):=Bn gA tablet mark loose bound states
@[irreducible]noncomputable def ya(ph:Cd->Pl->Int->Int->(List Ii)->Res (List Ii))(tablet:Cd)(loose:Int)(bound:Int)(a10:Pl)(s11:(List<|List Ii)):Res (Fl (List<|List Ii)<|List<|List Ii):=((fA s11<|-(1:Int)).bind fun y32=>CK y32.isEmpty).bind fun y33=>if y33 then CK (.rt s11)else(((fA s11<|-(1:Int)).bind fun y36=>ph tablet a10 loose bound y36).bind fun y41=>iC s11 y41).bind fun y40=>CK<|.nx y40
@[irreducible]noncomputable def Bo(nP:Ii->Int->Int->Res Bool)(ph:Cd->Pl->Int->Int->(List Ii)->Res (List Ii))(tablet:Cd)(strip:List Pl)(loose:Int)(bound:Int):Res (List<|List Ii):=(((nP (0,0) loose bound).bind fun y3=>if y3 then CK [(0,0)]else CK ([]:List Ii)).bind fun y4=>CK [y4]).bind fun y5=>(dO (ya ph tablet loose bound) strip y5).bind (fun | .nx s42=>(CK s42)| .rt r=>CK r| .bk _=>IH)
def xm(tablet:Cd)(strip:List Pl)(loose:Int)(bound:Int):Res (List<|List Ii):=Bo nP ph tablet strip loose bound
@[irreducible]noncomputable def zP(gA:Cd->Pl->Int->Int->Ii->Res (List<|Tx×Ii))(tablet:Cd)(strip:List Pl)(loose:Int)(bound:Int)(y3:List (List Ii))(a31:Int)(s32:(List<|List<|Ii×Int)):Res (List<|List<|Ii×Int):=(fA s32<|-(1:Int)).bind fun y57=>((fA y3 a31).bind fun y82=>bR (fun(a67:Ii)(s69:List (Ii×(List<|Tx×Ii)))=>((fA strip a31).bind fun y80=>gA tablet y80 loose bound a67).bind fun y81=>jZ s69 a67 y81) y82 ([]:List (Ii×(List<|Tx×Ii)))).bind fun y83=>((bR (fun(a91:Ii)(s93:List (Ii×Int))=>(((getD y83 a91).bind fun y116=>fb y116<|fun(a104:Tx×Ii)=>getD y57 a104.2).bind fun y117=>CK y117.sum).bind fun y118=>jZ s93 a91 y118) (y83.map (·.1)) ([]:List (Ii×Int))).bind fun y123=>iC s32 y123).bind fun y122=>CK y122
@[irreducible]noncomputable def Bp(xm:Cd->(List Pl)->Int->Int->Res (List<|List Ii))(gA:Cd->Pl->Int->Int->Ii->Res (List<|Tx×Ii))(tablet:Cd)(strip:List Pl)(loose:Int)(bound:Int):Res (List<|List<|Ii×Int):=(xm tablet strip loose bound).bind fun y3=>(((fA y3<|-(1:Int)).bind fun y24=>bR (fun(a13:Ii)(s15:List (Ii×Int))=>jZ s15 a13 (1:Int)) y24 ([]:List (Ii×Int))).bind fun y25=>CK [y25]).bind fun y26=>((my<|(y3.length:Int)-(1:Int)).bind fun y124=>bR (zP gA tablet strip loose bound y3) y124 y26).bind fun s125=>CK s125.reverse
def pj(tablet:Cd)(strip:List Pl)(loose:Int)(bound:Int):Res (List<|List<|Ii×Int):=Bp xm gA tablet strip loose bound
@[irreducible]noncomputable def Bq(pj:Cd->(List Pl)->Int->Int->Res (List<|List<|Ii×Int))(tablet:Cd)(strip:List Pl)(loose:Int)(bound:Int):Res Int:=((pj tablet strip loose bound).bind fun y1=>fA y1 (0:Int)).bind fun y2=>CK<|kf y2 (0,0) (0:Int)
def xo(tablet:Cd)(strip:List Pl)(loose:Int)(bound:Int):Res Int:=Bq pj tablet strip loose bound
@[irreducible]noncomputable def zQ(moves:List (Tx×Ii))(counts:List (Ii×Int))(s6:Ii):Res Bool:=(((fA moves s6.2).bind fun y18=>CK y18.2).bind fun y19=>getD counts y19).bind fun y20=>CK<|decide<|y20<=s6.1
@[irreducible]noncomputable def zR(moves:List (Tx×Ii))(counts:List (Ii×Int))(s6:Ii):Res Ii:=(((fA moves s6.2).bind fun y21=>CK y21.2).bind fun y22=>getD counts y22).bind fun y23=>CK ((s6.1-y23),(s6.2+(1:Int)))
@[irreducible]noncomputable def Br(moves:List (Tx×Ii))(counts:List (Ii×Int))(number:Int):Res (Tx×Ii×Int):=(gd (zQ moves counts) (zR moves counts) cap (number,(0:Int))).bind fun s28=>(fA moves s28.2).bind fun y32=>CK (y32.1,y32.2,s28.1)
def pq(moves:List (Tx×Ii))(counts:List (Ii×Int))(number:Int):Res (Tx×Ii×Int):=Br moves counts number
@[irreducible]noncomputable def eJ(pq:(List<|Tx×Ii)->(List<|Ii×Int)->Int->Res (Tx×Ii×Int))(gA:Cd->Pl->Int->Int->Ii->Res (List<|Tx×Ii))(tablet:Cd)(loose:Int)(bound:Int)(y3:List (List<|Ii×Int))(a23:Int×Pl)(s24:(Ii×Int×Tx)):Res (Ii×Int×Tx):=((gA tablet a23.2 loose bound s24.1).bind fun y54=>(fA y3<|a23.1+(1:Int)).bind fun y55=>pq y54 y55 s24.2.1).bind fun y56=>(fB s24.2.2 y56.1).bind fun y69=>CK (y56.2.1,y56.2.2,y69)
@[irreducible]noncomputable def nQ(pj:Cd->(List Pl)->Int->Int->Res (List<|List<|Ii×Int))(pq:(List<|Tx×Ii)->(List<|Ii×Int)->Int->Res (Tx×Ii×Int))(gA:Cd->Pl->Int->Int->Ii->Res (List<|Tx×Ii))(tablet:Cd)(strip:List Pl)(loose:Int)(bound:Int)(number:Int):Res Tx:=(pj tablet strip loose bound).bind fun y3=>(if(decide<|number<(0:Int))then CK true else((fA y3 (0:Int)).bind fun y6=>CK<|kf y6 (0,0) (0:Int)).bind fun y7=>CK<|decide<|y7<=number).bind fun y8=>if y8 then(((fB ([]:Tx) [110,111,32,99,111,108,117,109,110,32,104,97,115,32,116,104,101,32,110,117,109,98,101,114,32]).bind fun y11=>(yM number).bind fun y13=>(fB y11 y13).bind fun y12=>CK y12).bind yN).bind fun y14=>Res.err 11 else(bR (eJ pq gA tablet loose bound y3) (fM strip) ((0,0),number,([]:Tx))).bind fun s70=>CK s70.2.2
def cV(tablet:Cd)(strip:List Pl)(loose:Int)(bound:Int)(number:Int):Res Tx:=nQ pj pq gA tablet strip loose bound number
@[irreducible]noncomputable def Bs(cV:Cd->(List Pl)->Int->Int->Int->Res Tx)(Z01:Cd)(Z1r:List Pl)(Z0B:Int)(Z0C:Int)(Z1O:Int):Res Dat:=(Res.tryR<|cV Z01 Z1r Z0B Z0C Z1O).bind fun r2=>match r2 with| .inr j4=>CK (oP [114,101,102,117,115,101,100] j4)| .inl y3=>CK<|Dat.t [Mb (([119,97,121]:Tx),y3).1,Mb (([119,97,121]:Tx),y3).2]
def nR(Z01:Cd)(Z1r:List Pl)(Z0B:Int)(Z0C:Int)(Z1O:Int):Res Dat:=Bs cV Z01 Z1r Z0B Z0C Z1O
@[irreducible]noncomputable def gh(cV:Cd->(List Pl)->Int->Int->Int->Res Tx)(y1:Cd×(List Pl)×Int)(y16:Int)(a59:Int×Tx)(s60:Unit):Res (Fl Bool Unit):=(((cV y1.1 y1.2.1 y1.2.2 y16 a59.1).bind fun y87=>qi y87 a59.2).bind fun y88=>CK<|!y88).bind fun y89=>if y89 then CK (.rt false)else CK (.nx ())
@[irreducible]noncomputable def cW(nR:Cd->(List Pl)->Int->Int->Int->Res Dat)(y1:Cd×(List Pl)×Int)(y16:Int)(y43:List Tx)(a113:Int)(s114:Unit):Res (Fl Bool Unit):=(if(decide<|a113<(0:Int))then CK true else CK (decide<|(y43.length:Int)<=a113)).bind fun y134=>if y134 then(((nR y1.1 y1.2.1 y1.2.2 y16 a113).bind fun y137=>Ak y137<|(fun(z:Tx×(List Tx))=>Dat.t [Mb z.1,Dat.l<|z.2.map fun(z:Tx)=>Mb z]) (([114,101,102,117,115,101,100]:Tx),[([78,111,83,117,99,104,87,97,121]:Tx)])).bind fun y138=>CK<|!y138).bind fun y139=>if y139 then CK (.rt false)else CK (.nx ())else CK (.nx ())
@[irreducible]noncomputable def qJ(vS:List Int->Int->Res (Cd×(List Pl)×Int))(iw:List Int->Int->Res Int)(xf:Int->Res (List Tx))(xg:Cd->(List Pl)->Int->Int->Tx->Res Bool)(xo:Cd->(List Pl)->Int->Int->Res Int)(cV:Cd->(List Pl)->Int->Int->Int->Res Tx)(nR:Cd->(List Pl)->Int->Int->Int->Res Dat)(Z0s:List Int):Res Bool:=(vS Z0s (4:Int)).bind fun y1=>(((iw Z0s (5:Int)).bind fun y14=>CK<|y14%7).bind fun y15=>fA [(0:Int),(1:Int),(2:Int),(3:Int),(4:Int),(5:Int),(60:Int)] y15).bind fun y16=>((xf (y1.2.1.length:Int)).bind fun y34=>jD y34 (fun(a21:Tx)=>(xg y1.1 y1.2.1 y1.2.2 y16 a21).bind fun y33=>if y33 then CK (some a21)else CK none)).bind fun y43=>(((xo y1.1 y1.2.1 y1.2.2 y16).bind fun y50=>Ac y50 (y43.length:Int)).bind fun y51=>CK<|!y51).bind fun y52=>if y52 then CK false else(dO (gh cV y1 y16) (fM y43) ()).bind (fun | .nx s96=>(((Ac y1.2.1 y1.2.1).bind fun y100=>CK<|!y100).bind fun y101=>if y101 then CK false else(((((((iw Z0s (6:Int)).bind fun y108=>kO y108 (10000000000000000000000000000000000000000:Int)).bind fun y109=>CK<|((y43.length:Int)+(1:Int))+y109).bind fun y110=>CK (y110::([((0:Int)-(y43.length:Int))]:List Int))).bind fun y111=>CK ((y43.length:Int)::y111)).bind fun y112=>CK (((0:Int)-(1:Int))::y112)).bind fun y146=>dO (cW nR y1 y16 y43) y146 ()).bind (fun | .nx s147=>(CK true)| .rt r=>CK r| .bk _=>IH))| .rt r=>CK r| .bk _=>IH)
def vi(Z0s:List Int):Res Bool:=qJ vS iw xf xg xo cV nR Z0s
end
end Mi
namespace Wb
open PySem L2 Mi
def tp(i:Nat):Stmt:=IE.main.body.getD i<|.Pass ⟨0,0,0,0⟩
theorem j7:bootBuiltins "ValueError"=some (.type "ValueError"):=by decide +kernel
section
variable{P:CT}{w:D6}{K:CF}{mg:Str->Option CD}{base:Heap}
def eK(j n:Nat):List (Tx×Bool):=M7 n [([66,97,100,84,97,98,108,101,116],decide<|0=j),([66,97,100,82,111,119],decide<|1=j),([66,97,100,84,101,120,116],decide<|2=j),([66,97,100,77,97,114,107],decide<|3=j),([84,111,111,76,111,110,103],decide<|4=j),([84,111,111,84,105,103,104,116],decide<|5=j),([83,112,111,111,108,68,114,121],decide<|6=j),([78,111,84,97,98,108,101,116],decide<|7=j),([78,111,116,104,105,110,103,76,101,102,116],decide<|8=j),([85,110,108,105,107,101],decide<|9=j),([83,101,101,110,84,104,114,101,97,100],decide<|10=j),([78,111,83,117,99,104,87,97,121],decide<|11=j),([66,97,114,114,101,100],decide<|12=j),([110,111,32,66,97,110,100,69,114,114,111,114],false),([110,111,32,86,97,108,117,101,69,114,114,111,114],false)]
theorem d9{Er:Nat->Prop}{K:CF}{x C:Addr}{σ:St}{W:Wd}{v:V}{c:CD}{b:Bool}(h0:σ[0]? =some (some<|.ref x))(hv:kv v=some c)(hk:DR K (.ref C) c=some b):
  EV Er (dP (fun xs H Q=>∃v c b,xs=[.ref x,v]/\kv v=some c/\DR K (.ref C) c=some b/\Q (.bl b) H)<|ak (bL 0)<|ak (tC v) aQ) σ W (sh isB) (.ok b):=fun W1 e1 Q k=>
 ⟨.ref x,h0,v,c,b,rfl,hv,hk,k (.bl b) W1 (.refl _) rfl⟩
def xp(a:Tx×Bool):Res (Option Tx):=if a.2 then CK (some a.1)else CK none
theorem pz:∀j,j<13->jD (eK j 15) xp=.ok [kindN.getD j []]:=by
 intro j hj
 match j,hj with
 |0,_=>rfl
 |1,_=>rfl
 |2,_=>rfl
 |3,_=>rfl
 |4,_=>rfl
 |5,_=>rfl
 |6,_=>rfl
 |7,_=>rfl
 |8,_=>rfl
 |9,_=>rfl
 |10,_=>rfl
 |11,_=>rfl
 |12,_=>rfl
theorem vj{f:Addr}{fd:De}(F:Fun K "_law_kinds" "_law_kinds" (tp 63) f fd)(h_isinstance:mg "isinstance"=none)(h_ValueError:mg "ValueError"=none){Z0a Z0o Z0l Z0m Z0n Z0c Z0d Z0e Z07 Z0p Z09 Z08 Z0q Z04:Addr}(Z36:mg "BadTablet"=some (.ref Z0a))(Z4Q:mg "BadRow"=some (.ref Z0o))(Z4f:mg "BadText"=some (.ref Z0l))(Z4g:mg "BadMark"=some (.ref Z0m))(Z4h:mg "TooLong"=some (.ref Z0n))(Z3P:mg "TooTight"=some (.ref Z0c))(Z3Q:mg "SpoolDry"=some (.ref Z0d))(Z3R:mg "NoTablet"=some (.ref Z0e))(Z2e:mg "NothingLeft"=some (.ref Z07))(Z4R:mg "Unlike"=some (.ref Z0p))(Z2r:mg "SeenThread"=some (.ref Z09))(Z1v:mg "NoSuchWay"=some (.ref Z08))(Z4S:mg "Barred"=some (.ref Z0q))(Z1w:mg "BandError"=some (.ref Z04)):
  FnOkH P w K mg base 1 f fd ["_law_e"] (gz K [Z0a,Z0o,Z0l,Z0m,Z0n,Z0c,Z0d,Z0e,Z07,Z0p,Z09,Z08,Z0q] Z04):=by
 have SC:FnScope ["_law_e","_law_known"] ["_law_e"] (defScope<|tp 63):=⟨rfl,rfl,rfl,by decide +kernel,rfl,by decide +kernel,by decide +kernel⟩
 refine Fun.okH F SC (fun x C vs H Q E h=>?_)<|fun x C cdv A outer s H vs Q E hE hr h=>?_;·obtain⟨_,_,_,rfl,_⟩:=h;rfl
 ·obtain⟨W0,j,rfl,rfl,hZ,hj,hc,hB,hV,hq⟩:=h
  refine⟨_,(af (fq (i:=1) SC.nd rfl (by first|exact GH rfl|exact Gv rfl) (bE (a8 (bc (a8 aD (a8 (ar (aU (K:=K) rfl hE hZ) (by rfl) h_isinstance CO (a8 (pv 0) (a8 (bb (v:=.ref Z0a) (by rfl) Z36 rfl) aa))) aa))) (a8 (bc (a8 aD (a8 (ar (aU (K:=K) rfl hE hZ) (by rfl) h_isinstance CO (a8 (pv 0) (a8 (bb (v:=.ref Z0o) (by rfl) Z4Q rfl) aa))) aa))) aa))))
   (af (fq (i:=1) SC.nd rfl (by first|exact GH rfl|exact Gv rfl) (ai fW (pv 1) (bE (a8 (bc (a8 aD (a8 (ar (aU (K:=K) rfl hE hZ) (by rfl) h_isinstance CO (a8 (pv 0) (a8 (bb (v:=.ref Z0l) (by rfl) Z4f rfl) aa))) aa))) (a8 (bc (a8 aD (a8 (ar (aU (K:=K) rfl hE hZ) (by rfl) h_isinstance CO (a8 (pv 0) (a8 (bb (v:=.ref Z0m) (by rfl) Z4g rfl) aa))) aa))) aa)))))
   (af (fq (i:=1) SC.nd rfl (by first|exact GH rfl|exact Gv rfl) (ai fW (pv 1) (bE (a8 (bc (a8 aD (a8 (ar (aU (K:=K) rfl hE hZ) (by rfl) h_isinstance CO (a8 (pv 0) (a8 (bb (v:=.ref Z0n) (by rfl) Z4h rfl) aa))) aa))) (a8 (bc (a8 aD (a8 (ar (aU (K:=K) rfl hE hZ) (by rfl) h_isinstance CO (a8 (pv 0) (a8 (bb (v:=.ref Z0c) (by rfl) Z3P rfl) aa))) aa))) aa)))))
   (af (fq (i:=1) SC.nd rfl (by first|exact GH rfl|exact Gv rfl) (ai fW (pv 1) (bE (a8 (bc (a8 aD (a8 (ar (aU (K:=K) rfl hE hZ) (by rfl) h_isinstance CO (a8 (pv 0) (a8 (bb (v:=.ref Z0d) (by rfl) Z3Q rfl) aa))) aa))) (a8 (bc (a8 aD (a8 (ar (aU (K:=K) rfl hE hZ) (by rfl) h_isinstance CO (a8 (pv 0) (a8 (bb (v:=.ref Z0e) (by rfl) Z3R rfl) aa))) aa))) aa)))))
   (af (fq (i:=1) SC.nd rfl (by first|exact GH rfl|exact Gv rfl) (ai fW (pv 1) (bE (a8 (bc (a8 aD (a8 (ar (aU (K:=K) rfl hE hZ) (by rfl) h_isinstance CO (a8 (pv 0) (a8 (bb (v:=.ref Z07) (by rfl) Z2e rfl) aa))) aa))) (a8 (bc (a8 aD (a8 (ar (aU (K:=K) rfl hE hZ) (by rfl) h_isinstance CO (a8 (pv 0) (a8 (bb (v:=.ref Z0p) (by rfl) Z4R rfl) aa))) aa))) aa)))))
   (af (fq (i:=1) SC.nd rfl (by first|exact GH rfl|exact Gv rfl) (ai fW (pv 1) (bE (a8 (bc (a8 aD (a8 (ar (aU (K:=K) rfl hE hZ) (by rfl) h_isinstance CO (a8 (pv 0) (a8 (bb (v:=.ref Z09) (by rfl) Z2r rfl) aa))) aa))) (a8 (bc (a8 aD (a8 (ar (aU (K:=K) rfl hE hZ) (by rfl) h_isinstance CO (a8 (pv 0) (a8 (bb (v:=.ref Z08) (by rfl) Z1v rfl) aa))) aa))) aa)))))
   (af (fq (i:=1) SC.nd rfl (by first|exact GH rfl|exact Gv rfl) (ai fW (pv 1) (bE (a8 (bc (a8 aD (a8 (ar (aU (K:=K) rfl hE hZ) (by rfl) h_isinstance CO (a8 (pv 0) (a8 (bb (v:=.ref Z0q) (by rfl) Z4S rfl) aa))) aa))) (a8 (bc (a8 aD (a8 (oo (ar (aU (K:=K) rfl hE hZ) (by rfl) h_isinstance CO (a8 (pv 0) (a8 (bb (v:=.ref Z04) (by rfl) Z1w rfl) aa)))) aa))) aa)))))
   (af (fq (i:=1) SC.nd rfl (by first|exact GH rfl|exact Gv rfl) (ai fW (pv 1) (bE (a8 (bc (a8 aD (a8 (oo (ar (aU (K:=K) rfl hE hZ) (by rfl) h_isinstance CO (a8 (pv 0) (a8 (cY (v:=.ty "ValueError") (by rfl) h_ValueError j7 rfl) aa)))) aa))) aa))))
   (ag (ay (ui (N:=["_law_name","_law_so"]) (cap:=[none,none]) (gY rfl (by decide +kernel) rfl (by decide +kernel) (by rfl) (by rfl)) hE.hdx (uh (K:=K) rfl (pv 1)) (fun _ _ _ _ hx=>(wx (K:=K) (n:=2) rfl hx (au (bo (i:=0) (show Ee (["_law_name","_law_so"]:List Str) by decide +kernel) rfl (by first|exact GH rfl|exact Gv rfl)) (au (bo (i:=1) (show Ee (["_law_name","_law_so"]:List Str) by decide +kernel) rfl (by first|exact GH rfl|exact Gv rfl)) bI)))) (fun _ _ _ _=>(lU (cK (pv 1)))) (fun _ _ _ _=>(pv 0))))))))))))),?_⟩
  have E0:Ext W0 W0:=.refl W0;rw[show L2.start ["_law_e","_law_known"] [.ref x]=[some (.ref x),none]from rfl];refine aq (Er:=fun _=>False) (i:=1) (R:=sh<|isL<|isT2 K isS isB) (m:=.ok<|eK j 2) (σ':=fun v=>[some (.ref x),some v]) (Ey (bX (az (bz (K:=K) (aE (x:=CI "BadTablet") (l:=[66,97,100,84,97,98,108,101,116]) (du _ _ (by decide +kernel)))<|d9 (K:=K) (C:=C) (v:=.ref Z0a) (c:=.ref Z0a) (b:=decide<|0=j) rfl rfl<|hc 0 _ rfl) (az (bz (K:=K) (aE (x:=CI "BadRow") (l:=[66,97,100,82,111,119]) (du _ _ (by decide +kernel)))<|d9 (K:=K) (C:=C) (v:=.ref Z0o) (c:=.ref Z0o) (b:=decide<|1=j) rfl rfl<|hc 1 _ rfl)<|bW (R:=isT2 K isS isB)))))<|fun v0 W1 e0 h0=>?_;have E0:=E0.trans e0;refine aq (Er:=fun _=>False) (i:=1) (R:=sh<|isL<|isT2 K isS isB) (m:=.ok<|eK j 4) (σ':=fun v=>[some (.ref x),some v]) (Ey (eQ (FC<|d4 (R:=sh<|isL<|isT2 K isS isB) h0) (Gh (bX (az (bz (K:=K) (aE (x:=CI "BadText") (l:=[66,97,100,84,101,120,116]) (du _ _ (by decide +kernel)))<|d9 (K:=K) (C:=C) (v:=.ref Z0l) (c:=.ref Z0l) (b:=decide<|2=j) rfl rfl<|hc 2 _ rfl) (az (bz (K:=K) (aE (x:=CI "BadMark") (l:=[66,97,100,77,97,114,107]) (du _ _ (by decide +kernel)))<|d9 (K:=K) (C:=C) (v:=.ref Z0m) (c:=.ref Z0m) (b:=decide<|3=j) rfl rfl<|hc 3 _ rfl)<|bW (R:=isT2 K isS isB)))))))<|fun v1 W2 e1 h1=>?_;have E0:=E0.trans e1;refine aq (Er:=fun _=>False) (i:=1) (R:=sh<|isL<|isT2 K isS isB) (m:=.ok<|eK j 6) (σ':=fun v=>[some (.ref x),some v]) (Ey (eQ (FC<|d4 (R:=sh<|isL<|isT2 K isS isB) h1) (Gh (bX (az (bz (K:=K) (aE (x:=CI "TooLong") (l:=[84,111,111,76,111,110,103]) (du _ _ (by decide +kernel)))<|d9 (K:=K) (C:=C) (v:=.ref Z0n) (c:=.ref Z0n) (b:=decide<|4=j) rfl rfl<|hc 4 _ rfl) (az (bz (K:=K) (aE (x:=CI "TooTight") (l:=[84,111,111,84,105,103,104,116]) (du _ _ (by decide +kernel)))<|d9 (K:=K) (C:=C) (v:=.ref Z0c) (c:=.ref Z0c) (b:=decide<|5=j) rfl rfl<|hc 5 _ rfl)<|bW (R:=isT2 K isS isB)))))))<|fun v2 W3 e2 h2=>?_;have E0:=E0.trans e2;refine aq (Er:=fun _=>False) (i:=1) (R:=sh<|isL<|isT2 K isS isB) (m:=.ok<|eK j 8) (σ':=fun v=>[some (.ref x),some v]) (Ey (eQ (FC<|d4 (R:=sh<|isL<|isT2 K isS isB) h2) (Gh (bX (az (bz (K:=K) (aE (x:=CI "SpoolDry") (l:=[83,112,111,111,108,68,114,121]) (du _ _ (by decide +kernel)))<|d9 (K:=K) (C:=C) (v:=.ref Z0d) (c:=.ref Z0d) (b:=decide<|6=j) rfl rfl<|hc 6 _ rfl) (az (bz (K:=K) (aE (x:=CI "NoTablet") (l:=[78,111,84,97,98,108,101,116]) (du _ _ (by decide +kernel)))<|d9 (K:=K) (C:=C) (v:=.ref Z0e) (c:=.ref Z0e) (b:=decide<|7=j) rfl rfl<|hc 7 _ rfl)<|bW (R:=isT2 K isS isB)))))))<|fun v3 W4 e3 h3=>?_;have E0:=E0.trans e3;refine aq (Er:=fun _=>False) (i:=1) (R:=sh<|isL<|isT2 K isS isB) (m:=.ok<|eK j 10) (σ':=fun v=>[some (.ref x),some v]) (Ey (eQ (FC<|d4 (R:=sh<|isL<|isT2 K isS isB) h3) (Gh (bX (az (bz (K:=K) (aE (x:=CI "NothingLeft") (l:=[78,111,116,104,105,110,103,76,101,102,116]) (du _ _ (by decide +kernel)))<|d9 (K:=K) (C:=C) (v:=.ref Z07) (c:=.ref Z07) (b:=decide<|8=j) rfl rfl<|hc 8 _ rfl) (az (bz (K:=K) (aE (x:=CI "Unlike") (l:=[85,110,108,105,107,101]) (du _ _ (by decide +kernel)))<|d9 (K:=K) (C:=C) (v:=.ref Z0p) (c:=.ref Z0p) (b:=decide<|9=j) rfl rfl<|hc 9 _ rfl)<|bW (R:=isT2 K isS isB)))))))<|fun v4 W5 e4 h4=>?_;have E0:=E0.trans e4;refine aq (Er:=fun _=>False) (i:=1) (R:=sh<|isL<|isT2 K isS isB) (m:=.ok<|eK j 12) (σ':=fun v=>[some (.ref x),some v]) (Ey (eQ (FC<|d4 (R:=sh<|isL<|isT2 K isS isB) h4) (Gh (bX (az (bz (K:=K) (aE (x:=CI "SeenThread") (l:=[83,101,101,110,84,104,114,101,97,100]) (du _ _ (by decide +kernel)))<|d9 (K:=K) (C:=C) (v:=.ref Z09) (c:=.ref Z09) (b:=decide<|10=j) rfl rfl<|hc 10 _ rfl) (az (bz (K:=K) (aE (x:=CI "NoSuchWay") (l:=[78,111,83,117,99,104,87,97,121]) (du _ _ (by decide +kernel)))<|d9 (K:=K) (C:=C) (v:=.ref Z08) (c:=.ref Z08) (b:=decide<|11=j) rfl rfl<|hc 11 _ rfl)<|bW (R:=isT2 K isS isB)))))))<|fun v5 W6 e5 h5=>?_;have E0:=E0.trans e5;refine aq (Er:=fun _=>False) (i:=1) (R:=sh<|isL<|isT2 K isS isB) (m:=.ok<|eK j 14) (σ':=fun v=>[some (.ref x),some v]) (Ey (eQ (FC<|d4 (R:=sh<|isL<|isT2 K isS isB) h5) (Gh (bX (az (bz (K:=K) (aE (x:=CI "Barred") (l:=[66,97,114,114,101,100]) (du _ _ (by decide +kernel)))<|d9 (K:=K) (C:=C) (v:=.ref Z0q) (c:=.ref Z0q) (b:=decide<|12=j) rfl rfl<|hc 12 _ rfl) (az (bz (K:=K) (aE (x:=CI "no BandError") (l:=[110,111,32,66,97,110,100,69,114,114,111,114]) (du _ _ (by decide +kernel)))<|tN<|d9 (K:=K) (C:=C) (v:=.ref Z04) (c:=.ref Z04) (b:=true) rfl rfl hB)<|bW (R:=isT2 K isS isB)))))))<|fun v6 W7 e6 h6=>?_;have E0:=E0.trans e6;refine aq (Er:=fun _=>False) (i:=1) (R:=sh<|isL<|isT2 K isS isB) (m:=.ok<|eK j 15) (σ':=fun v=>[some (.ref x),some v]) (Ey (eQ (FC<|d4 (R:=sh<|isL<|isT2 K isS isB) h6) (Gh (bX (az (bz (K:=K) (aE (x:=CI "no ValueError") (l:=[110,111,32,86,97,108,117,101,69,114,114,111,114]) (du _ _ (by decide +kernel)))<|tN<|d9 (K:=K) (C:=C) (v:=.ty "ValueError") (c:=.type "ValueError") (b:=true) rfl rfl hV)<|bW (R:=isT2 K isS isB))))))<|fun v7 W8 e7 h7=>?_;have E0:=E0.trans e7;refine i4 (Er:=fun _=>False) (m:=.ok [kindN.getD j []]) (pz j hj▸(jJ (R:=isT2 K isS isB) (R':=isS) (m:=.ok<|eK j 15) (f:=xp) (cJ<|d4 (R:=sh<|isL<|isT2 K isS isB) h7) fun W3 a1 v2 e4 h5 Q12 k13=>?_:EVo (fun _=>False) _ _ _ isS ((CK<|eK j 15).bind fun xs=>jD xs xp)))<|fun p W e hp o=>hq p W (E0.trans e) (bg E0.h hp) o;refine iH h5 fun v6 v8 h7 h9=>?_;cases h7;cases h9;refine⟨by simp[Keep,aZ],((kP<|d4 (R:=sh isB) (a:=a1.2) (v:=.bl a1.2) rfl):TV (fun _=>False) _ [some (.str<|sOf a1.1),some<|.bl a1.2] _ _) _ (.refl _) _ ?_⟩;intro W15 e16;unfold xp at k13;cases hb:a1.2 with
  |false=>rw[hb]at k13;exact k13 none _ e16 trivial
  |true=>
   rw[hb]at k13;rw[if_pos rfl];exact((d4 (R:=sh isS) (a:=a1.1) (v:=.str<|sOf a1.1) rfl):EV (fun _=>False) _ [some (.str<|sOf a1.1),some<|.bl true] _ _ _) W15 (.refl _) _ (fun u W18 e19 h21=>k13 (some u) _ (e16.trans e19) h21)
end
end Wb
local macro_rules | `(tactic|walk_at "L")=>`(tactic|first | exact GH rfl | exact Gv rfl)
local macro_rules | `(tactic|walk_at "F")=>`(tactic|exact⟨rfl,rfl,rfl,by decide +kernel,rfl,by decide +kernel,by decide +kernel⟩)
namespace Wb
open PySem L2 Mi
section
variable{P:CT}{w:D6}{K:CF}{mg:Str->Option CD}{base:Heap}
theorem BW{f:Addr}{fd:De}(F:Fun K "_law_at" "_law_at" (tp 47) f fd)(h_len:mg "len"=none):FnOk P w K mg base CX0 (1) f fd ["_law_script","_law_k"] (bQ (isScr K) isI (rs isI)<|AR):=by
 have SC:FnScope ["_law_script","_law_k"] ["_law_script","_law_k"] (defScope<|tp 47):=by walk_at "F"
 refine F.ok SC (fun vs H Q E h=>?_)<|fun cdv A outer s H vs Q E hr h=>?_;·obtain⟨_,_,_,_,_,_,rfl,_⟩:=h;rfl
 ·obtain⟨W0,Z0s,l_k,Z0O,_,rfl,rfl,Z03,z_l_k,Er,hq⟩:=h;cases z_l_k
  refine⟨_,(af (bO (aI pN (pv 1) (ar (bJ (K:=K) rfl) (by rfl) h_len Ef<|a8 (pv 0) aa)<|aJ _) (ag<|ay<|aH (bD (K:=K) rfl) (pv 0) (pv 1)<|fun _ _=>rfl) aS)
   (ag (ay (ai aP (ai eW (ai bK (ai eW (pv 1) ae) ae) (ai bK (ar (bJ (K:=K) rfl) (by rfl) h_len Ef (a8 (pv 0) aa)) ae)) ae)))),?_⟩
  have E0:Ext W0 W0:=.refl W0;unfold AR at hq;refine dW (Er:=Er) (aM<|d5 bh<|ll<|aX Z03)<|fun W1 e2=>?_;have E0:=E0.trans e2;have Z03:=Cz e2.g Z03;by_cases hb13:(decide<|l_k<(Z0s.length:Int))=true
  ·rw[if_pos hb13]at hq ⊢;exact aO (Er:=Er) (tU (aX Z03) bh)<|DF hq fun y3 hq v4 W5 e6 h7=>hq v4 W5 (E0.trans e6) h7
  ·rw[if_neg hb13]at hq ⊢
   try dsimp only[aL]
   exact aO (Er:=Er) (aA (fun _=>by decide) (jE (ba (aA (fun _=>.inr ⟨by decide,by decide⟩) bh) ah)<|ba (ll<|aX Z03) ah))<|DF hq fun y9 hq v10 W11 e12 h13=>hq v10 W11 (E0.trans e12) h13
theorem BX{f:Addr}{fd:De}(F:Fun K "_law_row" "_law_row" (tp 43) f fd)(h_abs:mg "abs"=none)(h_range:mg "range"=none):FnOk P w K mg base CX0 (1) f fd ["_law_cell","_law_many","_law_base"] (eF isI isI isI (ro isI)<|AS):=by
 have SC:FnScope ["_law_cell","_law_many","_law_base","_law_now","_law_far","_law_mix","_law_out","_law_k"] ["_law_cell","_law_many","_law_base"] (defScope<|tp 43):=by walk_at "F"
 refine F.ok SC (fun vs H Q E h=>?_)<|fun cdv A outer s H vs Q E hr h=>?_;·obtain⟨_,_,_,_,_,_,_,_,rfl,_⟩:=h;rfl
 ·obtain⟨W0,Z05,Z0r,Z1n,_,_,_,rfl,rfl,Z0X,Z1P,Z9I,Er,hq⟩:=h;cases Z0X;cases Z1P;cases Z9I
  refine⟨_,(af (dn 3 (ar jo (by rfl) h_abs GU<|a8 (pv 0) aa))
   (af (dn 4<|dg l0 (pv 3) (ai sM ae ae)<|aJ _)
   (af (dn 5<|ai aP (pv 3) ae)
   (af (dn 6<|bE aa)
   (af (cE DG rfl (gq rfl h_range<|a8 (pv 1) aa) (eU 7) (af (dn 5<|ai aP (ai bK (ai bK (ai eW (pv 5) ae) ae)<|pv 7) ae)
   (ag (bO (Jz<|fj (cK<|pv 4)<|eN<|aI sO (pv 3) ae<|aJ _) (af (fo<|d6 (K:=K) rfl (pv 6)<|a8 (ai aP (pv 3)<|pv 2) aa)
   (ag (dn 3 (ai bS (pv 3) (pv 2))))) (ag (fo (d6 (K:=K) rfl (pv 6) (a8 (ai aP (ai aP (ai eW (pv 5) (pv 5)) ae) (pv 2)) aa))))))))
   (ag (ay (pv 6)))))))),?_⟩
  have E0:Ext W0 W0:=.refl W0;unfold AS at hq;refine aq (Er:=Er) (oJ bh)<|fun v3 W1 e2 h4=>?_;cases h4;have E0:=E0.trans e2;refine aq (Er:=Er) (d5 bh (qc (r:=1000000000000000000) (by decide) (by decide)))<|fun v7 W5 e6 h8=>?_;cases h8;have E0:=E0.trans e6;refine aq (Er:=Er) (aA (fun _=>by decide) bh)<|fun v11 W9 e10 h12=>?_;cases h12;have E0:=E0.trans e10;refine dv (Er:=Er) (gu (R:=isI))<|fun p15 W13 e14 hp16 o17=>?_;have fr18:=bg E0.h hp16;have E0:=E0.trans e14;refine dh (Er:=Er) (f:=(zH Z05 Z1n)) (s0:=(((eE Z05)%2147483647),eE Z05,([]:List Int))) (Iv:=fun(s21:(Int×Int×(List Int)))(W22:Wd)(g23:St)=>∃(d25:Option V),g23=[some (.int Z05),some<|.int Z0r,some<|.int Z1n,some<|.int s21.2.1,some<|.bl<|decide<|(1000000000000000000:Int)<=eE Z05,some<|.int s21.1,some<|.ref p15,d25]/\Ext W0 W22/\Ow isI W22 p15 s21.2.2) (hX bh) (CA hq) ?_ ?_ ?_
  ·intro W37 e38;have E0:=E0.trans e38;have o17:=o17.mono e38;exact⟨_,rfl,E0,o17⟩
  ·intro Wb26 W27 W28 a19 v29 s20 sg30 P31 hW32 hB33 iv e34 h35 hq;obtain⟨d25,rfl,E0,o24⟩:=iv;have E0:=E0.trans e34;have hB33:=hB33.trans e34.g;have o24:=o24.mono e34;cases h35;refine gn (σ':=[some (.int Z05),some<|.int Z0r,some<|.int Z1n,some<|.int s20.2.1,some<|.bl<|decide<|(1000000000000000000:Int)<=eE Z05,some<|.int s20.1,some<|.ref p15,some<|.int a19]) ?_;unfold zH at hq;refine aq (Er:=Er) (aA (fun _=>by decide) (ba (ba (aA (fun _=>.inr ⟨by decide,by decide⟩) bh) ah) bh))<|fun v43 W41 e42 h44=>?_;cases h44;have E0:=E0.trans e42;have hB33:=hB33.trans e42.g;have o24:=o24.mono e42;refine mf (Er:=Er) (Iv:=fun(s74:(Int×(List Int)))(W75:Wd)(g76:St)=>g76=[some (.int Z05),some<|.int Z0r,some<|.int Z1n,some<|.int s74.1,some<|.bl<|decide<|(1000000000000000000:Int)<=eE Z05,some<|.int<|(((s20.1*48271)+(7919:Int))+a19)%2147483647,some<|.ref p15,some<|.int a19]/\Ext W0 W75/\Ow isI W75 p15 s74.2) (gP (kP BO)<|aM<|d5 bh ah) (CA hq) ?_ ?_ ?_
   ·intro W46 N49 e47 hN50 hq;have hs51:=e47.g;have E0:=E0.trans e47;have hB33:=hB33.trans e47.g;have o24:=o24.mono e47;refine tT (Er:=Er) o24 (jF bh bh)<|(CA hq).imp fun y55 hq W52 mu53 o54=>?_;have E0:=mu53.e _ E0 fr18;have hB33:=hB33.trans mu53.g;have hs51:=hs51.trans mu53.g;refine eH (Er:=Er) (pY bh bh)<|(CA hq).imp fun y59 hq v60 W57 e58 h61=>?_;cases h61;have E0:=E0.trans e58;have hB33:=hB33.trans e58.g;have hs51:=hs51.trans e58.g;have o54:=o54.mono e58;exact hN50 (y59,y55) W57 _ hs51 ⟨rfl,E0,o54⟩ hq
   ·intro W46 N49 e47 hN50 hq;have hs62:=e47.g;have E0:=E0.trans e47;have hB33:=hB33.trans e47.g;have o24:=o24.mono e47;refine gR (Er:=Er) o24 (jF (aA (fun _=>by decide)<|jE bh bh) bh)<|(CA hq).imp fun y68 hq W65 mu66 o67=>?_;have E0:=mu66.e _ E0 fr18;have hB33:=hB33.trans mu66.g;have hs62:=hs62.trans mu66.g;exact hN50 (s20.2.1,y68) W65 _ hs62 ⟨rfl,E0,o67⟩ hq
   ·intro s70 W71 sg72 hS73 iv hq;obtain⟨rfl,E0,o77⟩:=iv;have hB33:=hB33.trans hS73
    try dsimp only
    refine cw (W:=W71) (((((s20.1*48271)+(7919:Int))+a19)%2147483647),s70.1,s70.2) hB33 ?_ hq;exact⟨_,rfl,E0,o77⟩
  ·intro s79 W80 sg81 hS82 iv hq;obtain⟨d25,rfl,E0,o24⟩:=iv;exact⟨.ref p15,rfl,hq p15 W80 E0 fr18 o24⟩
theorem BY{f:Addr}{fd:De}(F:Fun K "_law_holes" "_law_holes" (tp 44) f fd){kH:Int->Int->Int->Res (List Int)}(Z0P:Cal P w K mg base "_law_row" ["_law_cell","_law_many","_law_base"] (1) (eF isI isI isI (ro isI) kH)):FnOk P w K mg base CX0 (2) f fd ["_law_cell"] (dD isI (rs isS)<|AU kH):=by
 have SC:FnScope ["_law_cell","_law_size","_law_draws","_law_out","_law_d"] ["_law_cell"] (defScope<|tp 44):=by walk_at "F"
 refine F.ok SC (fun vs H Q E h=>?_)<|fun cdv A outer s H vs Q E hr h=>?_;·obtain⟨_,_,_,_,rfl,_⟩:=h;rfl
 ·obtain⟨W0,Z05,_,rfl,rfl,Z0X,Er,hq⟩:=h;cases Z0X;refine⟨_,(af (dn 1<|aH (bD (K:=K) rfl) (bE<|a8 ae<|a8 ae<|a8 ae<|a8 ae<|a8 ae aa) (ai aP (pv 0) ae)<|fun _ _=>rfl)
   (af (dn 2<|di Z0P<|a8 (ai bS (pv 0) ae)<|a8 ae<|a8 ae aa)
   (af (dn 3 aD)
   (af (cE DG rfl (bV (K:=K) rfl<|jr (tD (K:=K) rfl) (pv 2) lN<|j8 ae) (eU 4)<|ag<|dn 3<|ai cj (pv 3)<|aH cq aD (ai aP (ai bK (aH (bD (K:=K) rfl) (pv 2) ae<|fun _ _=>rfl)<|ai eW (ai aP (pv 4)<|pv 1) ae) ae)<|fun _ _=>rfl)
   (ag (ay (pv 3))))))),?_⟩
  have E0:Ext W0 W0:=.refl W0;unfold AU at hq;refine aq (Er:=Er) (cO (Gh<|bX<|az ah<|az ah<|az ah<|az ah<|az ah<|bW (R:=isI)) (aA (fun _=>by decide) bh))<|(CA hq).imp fun y3 hq v4 W1 e2 h5=>?_;cases h5;have E0:=E0.trans e2;refine aq (Er:=Er) (Ey (gv (aA (fun _=>⟨by decide,by decide⟩) bh) ah ah))<|(CA hq).imp fun y8 hq v9 W6 e7 h10=>?_;have E0:=E0.trans e7;refine aq (Er:=Er) (aE (x:=CI "") (l:=[]) (du _ _ (by decide +kernel)))<|fun v13 W11 e12 h14=>?_;cases h14;have E0:=E0.trans e12;have h10:=Cz e12.g h10;refine dh (Er:=Er) (f:=(zI y3 y8)) (s0:=([]:Tx)) (Iv:=fun(s17:Tx)(W18:Wd)(g19:St)=>∃(d20:Option V),g19=[some (.int Z05),some<|.int y3,some v9,some<|.str<|sOf s17,d20]/\Ext W0 W18) (cJ<|Ey<|wg (FC<|aX h10) tO<|tP ah) (CA hq) ?_ ?_ ?_
  ·intro W32 e33;have E0:=E0.trans e33;have h10:=Cz e33.g h10;exact⟨_,rfl,E0⟩
  ·intro Wb21 W22 W23 a15 v24 s16 sg25 P26 hW27 hB28 iv e29 h30 hq;obtain⟨d20,rfl,E0⟩:=iv;have h10:=Cz hW27 h10;have E0:=E0.trans e29;have hB28:=hB28.trans e29.g;have h10:=Cz e29.g h10;cases h30;refine gn (σ':=[some (.int Z05),some<|.int y3,some v9,some<|.str<|sOf s16,some<|.int a15]) ?_;unfold zI at hq;refine eH (Er:=Er) (dR cR (cv (aE (x:=CI "abcdefghijklmnopqrstuvwxyz") (l:=[97,98,99,100,101,102,103,104,105,106,107,108,109,110,111,112,113,114,115,116,117,118,119,120,121,122]) (du _ _ (by decide +kernel))) (aA (fun _=>by decide) (ba (cO (FC<|aX h10) ah) (aA (fun _=>.inr ⟨by decide,by decide⟩)<|jF bh bh)))))<|(CA hq).imp fun y44 hq v45 W36 e37 h46=>?_;cases h46;have E0:=E0.trans e37;have hB28:=hB28.trans e37.g;have h10:=Cz e37.g h10
   try dsimp only
   refine cw (W:=W36) y44 hB28 ?_ hq;exact⟨_,rfl,E0⟩
  ·intro s47 W48 sg49 hS50 iv hq;obtain⟨d20,rfl,E0⟩:=iv;exact aO (Er:=Er) cR<|fun v51 W52 e53 h54=>hq v51 W52 (E0.trans e53) h54
theorem BZ{f:Addr}{fd:De}(F:Fun K "_law_card" "_law_card" (tp 45) f fd){x4:Int->Res Tx}(Z2s:Cal P w K mg base "_law_holes" ["_law_cell"] (2) (dD isI (rs isS) x4)):FnOk P w K mg base CX0 (3) f fd ["_law_cell"] (dD isI (rs<|qA K)<|AW x4):=by
 have SC:FnScope ["_law_cell"] ["_law_cell"] (defScope<|tp 45):=by walk_at "F"
 refine F.ok SC (fun vs H Q E h=>?_)<|fun cdv A outer s H vs Q E hr h=>?_;·obtain⟨_,_,_,_,rfl,_⟩:=h;rfl
 ·obtain⟨W0,Z05,_,rfl,rfl,Z0X,Er,hq⟩:=h;cases Z0X;refine⟨_,(ag<|ay<|bc<|a8 (aH cq aD (ai aP (pv 0) ae)<|fun _ _=>rfl)<|a8 (di Z2s<|a8 (ai bS (pv 0) ae) aa)<|a8 (ai aP (ai bS (pv 0) ae) ae) aa),?_⟩;have E0:Ext W0 W0:=.refl W0;unfold AW at hq;exact aO (Er:=Er) (dz (K:=K) (cv (aE (x:=CI "SZ") (l:=[83,90]) (du _ _ (by decide +kernel))) (aA (fun _=>by decide) bh)) (cP (aA (fun _=>⟨by decide,by decide⟩) bh)) (aA (fun _=>by decide) (aA (fun _=>⟨by decide,by decide⟩) bh)))<|DF hq fun y3 hq v4 W5 e6 h7=>hq v4 W5 (E0.trans e6) h7
theorem C0{f:Addr}{fd:De}(F:Fun K "_law_turns" "_law_turns" (tp 46) f fd){kH:Int->Int->Int->Res (List Int)}(Z0P:Cal P w K mg base "_law_row" ["_law_cell","_law_many","_law_base"] (1) (eF isI isI isI (ro isI) kH)):FnOk P w K mg base CX0 (2) f fd ["_law_cell","_law_many"] (bQ isI isI (rs isS)<|AX kH):=by
 have SC:FnScope ["_law_cell","_law_many"] ["_law_cell","_law_many"] (defScope<|tp 46):=by walk_at "F"
 refine F.ok SC (fun vs H Q E h=>?_)<|fun cdv A outer s H vs Q E hr h=>?_;·obtain⟨_,_,_,_,_,_,rfl,_⟩:=h;rfl
 ·obtain⟨W0,Z05,Z0r,_,_,rfl,rfl,Z0X,Z1P,Er,hq⟩:=h;cases Z0X;cases Z1P;refine⟨_,(af (bO (aI cS (ai aP (pv 0) ae) ae<|aJ _) (ag<|ay<|ai oE (aH cq aD (ai aP (ai bS (pv 0) ae) ae)<|fun _ _=>rfl)<|pv 1) aS)
   (ag (ay (jM (K:=K) rfl aD (a8 (fw (N:=["_law_d"]) (cap:=[none]) (gY rfl (by decide +kernel) rfl (by decide +kernel) (by rfl) (by rfl)) rfl (bV (K:=K) rfl (di Z0P (a8 (ai bS (pv 0) ae) (a8 (pv 1) (a8 ae aa))))) (fun _ _ _ _=>(bo (i:=0) (show Ee (["_law_d"]:List Str) by decide +kernel) rfl (by walk_at "L"))) (fun _ _ _ _=>cZ) (fun _ _ _ _=>(aH cq aD (pv 0) (fun _ _=>rfl)))) aa))))),?_⟩
  have E0:Ext W0 W0:=.refl W0;rw[show L2.start ["_law_cell","_law_many"] [.int Z05,.int Z0r]=[some (.int Z05),some<|.int Z0r]from rfl];unfold AX at hq;refine dW (Er:=Er) (aM (eZ (aA (fun _=>by decide) bh) ah))<|fun W1 e2=>?_;have E0:=E0.trans e2;by_cases hb24:(decide<|(Z05%7)=(3:Int))=true
  ·rw[if_pos hb24]at hq ⊢;exact aO (Er:=Er) (we (cv (aE (x:=CI "fbi") (l:=[102,98,105]) (du _ _ (by decide +kernel))) (aA (fun _=>by decide) (aA (fun _=>⟨by decide,by decide⟩) bh))) bh)<|DF hq fun y4 hq v5 W6 e7 h8=>hq v5 W6 (E0.trans e7) h8
  ·rw[if_neg hb24]at hq ⊢
   try dsimp only[aL]
   exact aO (Er:=Er) (m8 (du _ _ (by decide +kernel)) (Gh (fD (cJ (Ey (gv (aA (fun _=>⟨by decide,by decide⟩) bh) bh ah))) fun W11 a9 v10 e12 h13 Q16 k17=>by
    cases h13;refine gn ?_;exact⟨by simp[Keep,aZ],((cv (aE (x:=CI "fbi") (l:=[102,98,105]) (du _ _ (by decide +kernel))) bh):EV Er _ [some (.int a9)] _ _ _) _ (.refl _) _ k17⟩))) (DF hq fun y20 hq v21 W22 e23 h24=>hq v21 W22 (E0.trans e23) h24)
theorem C1{f:Addr}{fd:De}(F:Fun K "_law_go" "_law_go" (tp 49) f fd):FnOk P w K mg base CX0 (1) f fd ["_law_turn"] (dD isS (rs isI)<|AY):=by
 have SC:FnScope ["_law_turn"] ["_law_turn"] (defScope<|tp 49):=by walk_at "F"
 refine F.ok SC (fun vs H Q E h=>?_)<|fun cdv A outer s H vs Q E hr h=>?_;·obtain⟨_,_,_,_,rfl,_⟩:=h;rfl
 ·obtain⟨W0,Z0V,_,rfl,rfl,Z2t,Er,hq⟩:=h;cases Z2t;refine⟨_,(ag<|ay<|ai fV (ff (K:=K) rfl rfl aD<|a8 (pv 0) aa) ae),?_⟩;have E0:Ext W0 W0:=.refl W0;unfold AY at hq;exact aO (Er:=Er) (ba (hW (aE (x:=CI "bif") (l:=[98,105,102]) (du _ _ (by decide +kernel))) cR) ah)<|DF hq fun y2 hq v3 W4 e5 h6=>hq v3 W4 (E0.trans e5) h6
theorem C2{f:Addr}{fd:De}(F:Fun K "_law_behind" "_law_behind" (tp 50) f fd){oj:Tx->Res Int}(Z1A:Cal P w K mg base "_law_go" ["_law_turn"] (1) (dD isS (rs isI) oj)):FnOk P w K mg base CX0 (2) f fd ["_law_card_here","_law_turn"] (bQ (qA K) isS (rs<|qA K)<|AZ oj):=by
 have SC:FnScope ["_law_card_here","_law_turn"] ["_law_card_here","_law_turn"] (defScope<|tp 50):=by walk_at "F"
 refine F.ok SC (fun vs H Q E h=>?_)<|fun cdv A outer s H vs Q E hr h=>?_;·obtain⟨_,_,_,_,_,_,rfl,_⟩:=h;rfl
 ·obtain⟨W0,Z01,Z0V,Z0h,_,rfl,rfl,Z00,Z2t,Er,hq⟩:=h;cases Z2t;refine⟨_,(ag<|ay<|bc<|a8 (aH (aY (K:=K) rfl) (pv 0) ae<|fun _ _=>rfl)<|a8 (aH (aY (K:=K) rfl) (pv 0) ae<|fun _ _=>rfl)<|a8 (ai aP (ai bK (aH (aY (K:=K) rfl) (pv 0) ae<|fun _ _=>rfl)<|di Z1A<|a8 (pv 1) aa) ae) aa),?_⟩;have E0:Ext W0 W0:=.refl W0;unfold AZ at hq;exact aO (Er:=Er) (dz (K:=K) (bw (f:=fun(b:Cd)=>b.1) oI<|aX Z00) (bw (f:=fun(b:Cd)=>b.2.1) nh<|aX Z00) (aA (fun _=>by decide)<|ba (bw (f:=fun(b:Cd)=>b.2.2) m7<|aX Z00)<|cP cR))<|DF hq fun y4 hq v5 W6 e7 h8=>hq v5 W6 (E0.trans e7) h8
theorem C3{f:Addr}{fd:De}(F:Fun K "_law_twist" "_law_twist" (tp 51) f fd){oj:Tx->Res Int}(Z1A:Cal P w K mg base "_law_go" ["_law_turn"] (1) (dD isS (rs isI) oj)):FnOk P w K mg base CX0 (2) f fd ["_law_card_here","_law_turn"] (bQ (qA K) isS (rs isI)<|B1 oj):=by
 have SC:FnScope ["_law_card_here","_law_turn"] ["_law_card_here","_law_turn"] (defScope<|tp 51):=by walk_at "F"
 refine F.ok SC (fun vs H Q E h=>?_)<|fun cdv A outer s H vs Q E hr h=>?_;·obtain⟨_,_,_,_,_,_,rfl,_⟩:=h;rfl
 ·obtain⟨W0,Z01,Z0V,Z0h,_,rfl,rfl,Z00,Z2t,Er,hq⟩:=h;cases Z2t;refine⟨_,(af (bO (aI cS (aH (aY (K:=K) rfl) (pv 0) ae<|fun _ _=>rfl) aD<|aJ _) (ag<|ay<|di Z1A<|a8 (pv 1) aa) aS)
   (ag (ay (ai fV ae (di Z1A (a8 (pv 1) aa)))))),?_⟩
  have E0:Ext W0 W0:=.refl W0;unfold B1 at hq;refine dW (Er:=Er) (aM (gO (bw (f:=fun(b:Cd)=>b.1) oI<|aX Z00) (aE (x:=CI "S") (l:=[83]) (du _ _ (by decide +kernel)))))<|fun W1 e2=>?_;have E0:=E0.trans e2;have Z00:=Cz e2.g Z00;by_cases hb13:(decide<|Z01.1=([83]:Tx))=true
  ·rw[if_pos hb13]at hq ⊢;exact aO (Er:=Er) (cP cR)<|DF hq fun y3 hq v4 W5 e6 h7=>hq v4 W5 (E0.trans e6) h7
  ·rw[if_neg hb13]at hq ⊢
   try dsimp only[aL]
   exact aO (Er:=Er) (ba ah<|cP cR)<|DF hq fun y9 hq v10 W11 e12 h13=>hq v10 W11 (E0.trans e12) h13
theorem C4{f:Addr}{fd:De}(F:Fun K "_law_places" "_law_places" (tp 52) f fd){jh:Cd->Tx->Res Cd}{j6:Cd->Tx->Res Int}(Z0Z:Cal P w K mg base "_law_behind" ["_law_card_here","_law_turn"] (2) (bQ (qA K) isS (rs<|qA K) jh))(Z19:Cal P w K mg base "_law_twist" ["_law_card_here","_law_turn"] (2) (bQ (qA K) isS (rs isI) j6)):FnOk P w K mg base CX0 (3) f fd ["_law_card_here","_law_turns_here"] (bQ (qA K) isS (ro<|qB K)<|B2 jh j6):=by
 have SC:FnScope ["_law_card_here","_law_turns_here","_law_out","_law_turn","_law_slant"] ["_law_card_here","_law_turns_here"] (defScope<|tp 52):=by walk_at "F"
 refine F.ok SC (fun vs H Q E h=>?_)<|fun cdv A outer s H vs Q E hr h=>?_;·obtain⟨_,_,_,_,_,_,rfl,_⟩:=h;rfl
 ·obtain⟨W0,Z01,Z06,Z0h,_,rfl,rfl,Z00,Z0J,Er,hq⟩:=h;cases Z0J;refine⟨_,(af (dn 2<|bE aa)
   (af (cE DG rfl (jw<|pv 1) (eU 3) (af (dn 0<|di Z0Z<|a8 (pv 0)<|a8 (pv 3) aa)
   (af (dn 4<|aH cq aD (ai bK (di Z19<|a8 (pv 0)<|a8 (pv 3) aa) ae)<|fun _ _=>rfl)
   (ag (fo (d6 (K:=K) rfl (pv 2) (a8 (bc (a8 (aH cq (aH (aY (K:=K) rfl) (pv 0) ae (fun _ _=>rfl)) (aH (aY (K:=K) rfl) (pv 0) ae (fun _ _=>rfl)) (fun _ _=>rfl)) (a8 (aH cq (aH (aY (K:=K) rfl) (pv 0) ae (fun _ _=>rfl)) (ai aP (ai bK (aH (aY (K:=K) rfl) (pv 0) ae (fun _ _=>rfl)) ae) ae) (fun _ _=>rfl)) (a8 (pv 4) aa)))) aa)))))))
   (ag (ay (pv 2))))),?_⟩
  have E0:Ext W0 W0:=.refl W0;unfold B2 at hq;refine dv (Er:=Er) (gu (R:=(qB K)))<|fun p3 W1 e2 hp4 o5=>?_;have fr6:=bg E0.h hp4;have E0:=E0.trans e2;have Z00:=Cz e2.g Z00;refine dh (Er:=Er) (f:=(zJ jh j6)) (s0:=(Z01,([]:List Pl))) (Iv:=fun(s9:(Cd×(List Pl)))(W10:Wd)(g11:St)=>∃(v12:V)(d15:Option V)(d16:Option V),g11=[some v12,some<|.str<|sOf Z06,some<|.ref p3,d16,d15]/\Ext W0 W10/\(qA K) W10.G s9.1 v12/\Ow (qB K) W10 p3 s9.2) (jI cR) (CA hq) ?_ ?_ ?_
  ·intro W28 e29;have E0:=E0.trans e29;have Z00:=Cz e29.g Z00;have o5:=o5.mono e29;exact⟨_,_,_,rfl,E0,Z00,o5⟩
  ·intro Wb17 W18 W19 a7 v20 s8 sg21 P22 hW23 hB24 iv e25 h26 hq;obtain⟨v12,d15,d16,rfl,E0,h13,o14⟩:=iv;have E0:=E0.trans e25;have hB24:=hB24.trans e25.g;have o14:=o14.mono e25;have h13:=Cz e25.g h13;cases h26;refine gn (σ':=[some v12,some<|.str<|sOf Z06,some<|.ref p3,some<|.str<|sOf a7,d15]) ?_;unfold zJ at hq;refine aq (Er:=Er) (bf (aX h13) cR)<|(CA hq).imp fun y34 hq v35 W32 e33 h36=>?_;have E0:=E0.trans e33;have hB24:=hB24.trans e33.g;have o14:=o14.mono e33;refine aq (Er:=Er) (cv (aE (x:=CI "zos") (l:=[122,111,115]) (du _ _ (by decide +kernel)))<|ba (bf (aX h36) cR) ah)<|(CA hq).imp fun y41 hq v42 W37 e38 h43=>?_;cases h43;have E0:=E0.trans e38;have hB24:=hB24.trans e38.g;have o14:=o14.mono e38;have h36:=Cz e38.g h36;refine gR (Er:=Er) o14 (dz (K:=K) (cv (bw (f:=fun(b:Cd)=>b.2.1) nh<|aX h36)<|bw (f:=fun(b:Cd)=>b.2.2) m7<|aX h36) (cv (bw (f:=fun(b:Cd)=>b.2.1) nh<|aX h36) (aA (fun _=>by decide)<|ba (bw (f:=fun(b:Cd)=>b.2.2) m7<|aX h36) ah)) cR)<|(CA hq).imp fun y49 hq W46 mu47 o48=>?_;have E0:=mu47.e _ E0 fr6;have hB24:=hB24.trans mu47.g;have h36:=Cz mu47.g h36
   try dsimp only
   refine cw (W:=W46) (y34,y49) hB24 ?_ hq;exact⟨_,_,_,rfl,E0,h36,o48⟩
  ·intro s51 W52 sg53 hS54 iv hq;obtain⟨v12,d15,d16,rfl,E0,h13,o14⟩:=iv;exact⟨.ref p3,rfl,hq p3 W52 E0 fr6 o14⟩
theorem C5{f:Addr}{fd:De}(F:Fun K "_law_marks" "_law_marks" (tp 53) f fd){kH:Int->Int->Int->Res (List Int)}(Z0P:Cal P w K mg base "_law_row" ["_law_cell","_law_many","_law_base"] (1) (eF isI isI isI (ro isI) kH))(h_int:mg "int"=none)(h_len:mg "len"=none)(h_tuple:mg "tuple"=none)(h_zip:mg "zip"=none):FnOk P w K mg base CX0 (2) f fd ["_law_places_here","_law_cell","_law_lies"] (eF (qD K) isI isB (ro<|qB K)<|B3 kH):=by
 have SC:FnScope ["_law_places_here","_law_cell","_law_lies","_law_out","_law_draws","_law_place","_law_d","_law_mark","_law_letters"] ["_law_places_here","_law_cell","_law_lies"] (defScope<|tp 53):=by walk_at "F"
 refine F.ok SC (fun vs H Q E h=>?_)<|fun cdv A outer s H vs Q E hr h=>?_;·obtain⟨_,_,_,_,_,_,_,_,rfl,_⟩:=h;rfl
 ·obtain⟨W0,Z1o,Z05,Z1y,Z0G,_,_,rfl,rfl,Z0L,Z0X,Z9K,Er,hq⟩:=h;cases Z0X;cases Z9K;refine⟨_,(af (dn 3<|bE aa)
   (af (dn 4 (di Z0P (a8 (ai bS (pv 1) ae) (a8 (ar (bJ (K:=K) rfl) (by rfl) h_len Ef<|a8 (pv 0) aa) (a8 (ai bK ae (ai eW ae (gr l4 (by rfl) h_int G2<|a8 (pv 2) aa))) aa)))))
   (af (cE DG rfl (gZ (K:=K) rfl rfl h_zip<|a8 (pv 0)<|a8 (pv 4) aa) (bM (K:=K) (n:=2) rfl rfl<|au (eU 5)<|au (eU 6) bI) (af (bO (aI cS (ai aP (pv 1) ae) ae<|aJ _) (ag<|dn 6<|ai eW (ai bS (pv 6) ae) ae) aS)
   (af (bO (aI cS (ai aP (pv 1) ae) ae<|aJ _) (ag<|dn 6<|ai bK (ai eW (ai bS (pv 6) ae) ae) ae) aS)
   (af (dn 7<|bE<|a8 (aH (aY (K:=K) rfl) (pv 5) ae<|fun _ _=>rfl)<|a8 (aH (aY (K:=K) rfl) (pv 5) ae<|fun _ _=>rfl)<|a8 (aH (aY (K:=K) rfl) (pv 5) ae<|fun _ _=>rfl) aa)
   (af (bO (Jz<|fj (aI l0 (pv 6) ae<|aJ _)<|eN<|aI pN (ai aP (pv 6) ae) ae<|aJ _) (af (dn 8 aD)
   (ag (eV (aH cq (pv 8) (ai bK (ff (K:=K) rfl rfl (pv 8) (a8 (aH (bD (K:=K) rfl) (pv 7) (ai aP (pv 6) ae) (fun _ _=>rfl)) aa)) ae) (fun _ _=>rfl)) (sH (pv 7) (ai aP (pv 6) ae) mT)))) aS)
   (af (bO (Jz<|fj (aI l0 (pv 6) ae<|aJ _)<|eN<|aI cS (ai aP (pv 6) ae) ae<|aJ _) (ag<|eV (aH cq aD (ff (K:=K) rfl rfl aD<|a8 (aH (bD (K:=K) rfl) (pv 7) ae<|fun _ _=>rfl) aa)<|fun _ _=>rfl)<|sH (pv 7) ae mT) aS)
   (ag (fo (d6 (K:=K) rfl (pv 3) (a8 (gr (jL (K:=K) rfl) (by rfl) h_tuple GA (a8 (fw (N:=["_law_sign","_law_part","_law_d"]) (cap:=[none,none,some 6]) (gY rfl (by decide +kernel) rfl (by decide +kernel) (by rfl) (by rfl)) rfl (gZ (K:=K) rfl rfl h_zip (a8 (pv 7) (a8 (bE (a8 ae (a8 ae (a8 ae aa)))) aa))) (fun _ _ _ _=>(bM (K:=K) (n:=2) rfl rfl (au (bo (i:=0) (show Ee (["_law_sign","_law_part","_law_d"]:List Str) by decide +kernel) rfl (by walk_at "L")) (au (bo (i:=1) (show Ee (["_law_sign","_law_part","_law_d"]:List Str) by decide +kernel) rfl (by walk_at "L")) bI)))) (fun _ _ _ _=>cZ) (fun _ _ _ _=>(fU (aI cS (ai aP (ai bS (pv 2) (pv 1)) ae) ae (aJ _)) (pv 0) aD))) aa)) aa))))))))))
   (ag (ay (pv 3)))))),?_⟩
  have E0:Ext W0 W0:=.refl W0;rw[show L2.start ["_law_places_here","_law_cell","_law_lies","_law_out","_law_draws","_law_place","_law_d","_law_mark","_law_letters"] [Z0G,.int Z05,.bl Z1y]=[some Z0G,some<|.int Z05,some<|.bl Z1y,none,none,none,none,none,none]from rfl];unfold B3 at hq;refine dv (Er:=Er) (gu (R:=(qB K)))<|fun p3 W1 e2 hp4 o5=>?_;have fr6:=bg E0.h hp4;have E0:=E0.trans e2;have Z0L:=Cz e2.g Z0L;refine aq (Er:=Er) (Ey (gv (aA (fun _=>⟨by decide,by decide⟩) bh) (dU<|FC<|aX Z0L)<|ba ah<|jE ah<|qd BO))<|(CA hq).imp fun y11 hq v12 W7 e8 h13=>?_;have E0:=E0.trans e8;have Z0L:=Cz e8.g Z0L;have o5:=o5.mono e8;refine dh (Er:=Er) (f:=(zK Z05)) (s0:=([]:List Pl)) (Iv:=fun(s16:(List Pl))(W17:Wd)(g18:St)=>∃(d20:Option V)(d21:Option V)(d22:Option V)(d23:Option V),g18=[some Z0G,some<|.int Z05,some<|.bl Z1y,some<|.ref p3,some v12,d23,d20,d21,d22]/\Ext W0 W17/\Ow (qB K) W17 p3 s16) (m9 (iG<|aX Z0L)<|iG<|aX h13) (CA hq) ?_ ?_ ?_
  ·intro W35 e36;have E0:=E0.trans e36;have o5:=o5.mono e36;exact⟨_,_,_,_,rfl,E0,o5⟩
  ·intro Wb24 W25 W26 a14 v27 s15 sg28 P29 hW30 hB31 iv e32 h33 hq;obtain⟨d20,d21,d22,d23,rfl,E0,o19⟩:=iv;have E0:=E0.trans e32;have hB31:=hB31.trans e32.g;have o19:=o19.mono e32;refine iH h33 fun v41 v43 h42 h44=>?_;cases h44;unfold zK at hq;refine dF (Er:=Er) (Iv:=fun(s60:Int)(W61:Wd)(g62:St)=>g62=[some Z0G,some<|.int Z05,some<|.bl Z1y,some<|.ref p3,some v12,some v41,some<|.int s60,d21,d22]/\Ext W0 W61/\Ow (qB K) W61 p3 s15) (aM (eZ (aA (fun _=>by decide) bh) ah)) (CA hq) ?_ ?_ ?_
   ·intro W45 N48 e46 hN49 hq;have hs50:=e46.g;have E0:=E0.trans e46;have hB31:=hB31.trans e46.g;have o19:=o19.mono e46;have h42:=Cz e46.g h42;refine eH (Er:=Er) (aA (fun _=>.inr ⟨by decide,by decide⟩) (aA (fun _=>⟨by decide,by decide⟩) bh))<|fun v53 W51 e52 h54=>?_;cases h54;have E0:=E0.trans e52;have hB31:=hB31.trans e52.g;have hs50:=hs50.trans e52.g;have o19:=o19.mono e52;have h42:=Cz e52.g h42;exact hN49 ((a14.2/8)*8) W51 _ hs50 ⟨rfl,E0,o19⟩ hq
   ·intro W45 N48 e46 hN49 hq;have hs55:=e46.g;have E0:=E0.trans e46;have hB31:=hB31.trans e46.g;have o19:=o19.mono e46;have h42:=Cz e46.g h42
    try dsimp only[aL]
    exact hN49 a14.2 W45 _ hs55 ⟨rfl,E0,o19⟩ hq
   ·intro s56 W57 sg58 hS59 iv hq;obtain⟨rfl,E0,o63⟩:=iv;have hB31:=hB31.trans hS59;have h42:=Cz hS59 h42;refine dF (Er:=Er) (Iv:=fun(s79:Int)(W80:Wd)(g81:St)=>g81=[some Z0G,some<|.int Z05,some<|.bl Z1y,some<|.ref p3,some v12,some v41,some<|.int s79,d21,d22]/\Ext W0 W80/\Ow (qB K) W80 p3 s15) (aM (eZ (aA (fun _=>by decide) bh) ah)) (CA hq) ?_ ?_ ?_
    ·intro W64 N67 e65 hN68 hq;have hs69:=e65.g;have E0:=E0.trans e65;have hB31:=hB31.trans e65.g;have o63:=o63.mono e65;have h42:=Cz e65.g h42;refine eH (Er:=Er) (ba (aA (fun _=>.inr ⟨by decide,by decide⟩) (aA (fun _=>⟨by decide,by decide⟩) bh)) ah)<|fun v72 W70 e71 h73=>?_;cases h73;have E0:=E0.trans e71;have hB31:=hB31.trans e71.g;have hs69:=hs69.trans e71.g;have o63:=o63.mono e71;have h42:=Cz e71.g h42;exact hN68 (((s56/8)*8)+(7:Int)) W70 _ hs69 ⟨rfl,E0,o63⟩ hq
    ·intro W64 N67 e65 hN68 hq;have hs74:=e65.g;have E0:=E0.trans e65;have hB31:=hB31.trans e65.g;have o63:=o63.mono e65;have h42:=Cz e65.g h42
     try dsimp only[aL]
     exact hN68 s56 W64 _ hs74 ⟨rfl,E0,o63⟩ hq
    ·intro s75 W76 sg77 hS78 iv hq;obtain⟨rfl,E0,o82⟩:=iv;have hB31:=hB31.trans hS78;have h42:=Cz hS78 h42;refine dv (Er:=Er) (bX<|az (bw (f:=fun(b:Pl)=>b.1) oI<|aX h42)<|az (bw (f:=fun(b:Pl)=>b.2.1) nh<|aX h42)<|az (bw (f:=fun(b:Pl)=>b.2.2) m7<|aX h42)<|bW (R:=isS))<|fun p85 W83 e84 hp86 o87=>?_;have ne88:=o82.ne hp86;have fr89:=bg E0.h hp86;have E0:=E0.trans e84;have hB31:=hB31.trans e84.g;have o82:=o82.mono e84;have h42:=Cz e84.g h42;refine dF (Er:=Er) (Iv:=fun(s114:(List Tx))(W115:Wd)(g116:St)=>∃(d118:Option V),g116=[some Z0G,some<|.int Z05,some<|.bl Z1y,some<|.ref p3,some v12,some v41,some<|.int s75,some<|.ref p85,d118]/\Ext W0 W115/\Ow isS W115 p85 s114/\Ow (qB K) W115 p3 s15) (gP (aM<|d5 bh ah) (aM (d5 (aA (fun _=>by decide) bh) ah))) (CA hq) ?_ ?_ ?_
     ·intro W91 N94 e92 hN95 hq;have hs96:=e92.g;have E0:=E0.trans e92;have hB31:=hB31.trans e92.g;have o82:=o82.mono e92;have h42:=Cz e92.g h42;have o87:=o87.mono e92;refine aq (Er:=Er) (aE (x:=CI "abcdefghijklmnopqrstuvwxyza") (l:=[97,98,99,100,101,102,103,104,105,106,107,108,109,110,111,112,113,114,115,116,117,118,119,120,121,122,97]) (du _ _ (by decide +kernel)))<|fun v99 W97 e98 h100=>?_;cases h100;have E0:=E0.trans e98;have hB31:=hB31.trans e98.g;have hs96:=hs96.trans e98.g;have o82:=o82.mono e98;have h42:=Cz e98.g h42;have o87:=o87.mono e98;refine qa (Er:=Er) o87 (cv cR (ba (hW cR (cO (eP o87) (aA (fun _=>by decide) bh))) ah)) (aA (fun _=>by decide) bh)<|(CA hq).imp fun y108 hq W104 mu105 o106=>?_;have E0:=mu105.e _ E0 fr89;have hB31:=hB31.trans mu105.g;have hs96:=hs96.trans mu105.g;have o82:=mu105.ow ne88 o82;have h42:=Cz mu105.g h42;exact hN95 y108 W104 _ hs96 ⟨_,rfl,E0,o106,o82⟩ hq
     ·intro W91 N94 e92 hN95 hq;have hs109:=e92.g;have E0:=E0.trans e92;have hB31:=hB31.trans e92.g;have o82:=o82.mono e92;have h42:=Cz e92.g h42;have o87:=o87.mono e92
      try dsimp only[aL]
      exact hN95 [a14.1.1,a14.1.2.1,a14.1.2.2] W91 _ hs109 ⟨_,rfl,E0,o87,o82⟩ hq
     ·intro s110 W111 sg112 hS113 iv hq;obtain⟨d118,rfl,E0,o117,o119⟩:=iv;have hB31:=hB31.trans hS113;have h42:=Cz hS113 h42;refine dF (Er:=Er) (Iv:=fun(s139:(List Tx))(W140:Wd)(g141:St)=>g141=[some Z0G,some<|.int Z05,some<|.bl Z1y,some<|.ref p3,some v12,some v41,some<|.int s75,some<|.ref p85,d118]/\Ext W0 W140/\Ow isS W140 p85 s139/\Ow (qB K) W140 p3 s15) (gP (aM<|d5 bh ah) (aM (eZ (aA (fun _=>by decide) bh) ah))) (CA hq) ?_ ?_ ?_
      ·intro W121 N124 e122 hN125 hq;have hs126:=e122.g;have E0:=E0.trans e122;have hB31:=hB31.trans e122.g;have o119:=o119.mono e122;have h42:=Cz e122.g h42;have o117:=o117.mono e122;refine qa (Er:=Er) o117 (cv (aE (x:=CI "zos") (l:=[122,111,115]) (du _ _ (by decide +kernel))) (hW (aE (x:=CI "szo") (l:=[115,122,111]) (du _ _ (by decide +kernel)))<|cO (eP o117) ah)) ah<|(CA hq).imp fun y133 hq W129 mu130 o131=>?_;have E0:=mu130.e _ E0 fr89;have hB31:=hB31.trans mu130.g;have hs126:=hs126.trans mu130.g;have o119:=mu130.ow ne88 o119;have h42:=Cz mu130.g h42;exact hN125 y133 W129 _ hs126 ⟨rfl,E0,o131,o119⟩ hq
      ·intro W121 N124 e122 hN125 hq;have hs134:=e122.g;have E0:=E0.trans e122;have hB31:=hB31.trans e122.g;have o119:=o119.mono e122;have h42:=Cz e122.g h42;have o117:=o117.mono e122
       try dsimp only[aL]
       exact hN125 s110 W121 _ hs134 ⟨rfl,E0,o117,o119⟩ hq
      ·intro s135 W136 sg137 hS138 iv hq;obtain⟨rfl,E0,o142,o143⟩:=iv;have hB31:=hB31.trans hS138;have h42:=Cz hS138 h42;obtain⟨W144,hH145,E0,hS146,h148,hk147⟩:=o142.frz E0 fr89;rw[<-hH145];have hB31:=hB31.trans hS146;have o143:=o143.keep (by rw[hH145]) hS146<|hk147 _ ne88;have h42:=Cz hS146 h42;refine gR (Er:=Er) o143 (tX (Gh (fD (m9 (iG<|aX h148)<|iG<|Ey<|bX<|az ah<|az ah<|az ah<|bW (R:=isI)) fun W151 a149 v150 e152 h153 Q161 k162=>by
        refine iH h153 fun v154 v156 h155 h157=>?_;cases h155;cases h157;exact⟨by simp[Keep,aZ],((ng (aM (eZ (aA (fun _=>by decide) (pY bh bh)) ah)) cR (aE (x:=CI "?") (l:=[63]) (du _ _ (by decide +kernel)))):EV Er _ [some (.str (sOf a149.1)),some (.int a149.2),some (.int s75)] _ _ _) _ (.refl _) _ k162⟩))) ((CA hq).imp fun y167 hq W164 mu165 o166=>?_)
       have E0:=mu165.e _ E0 fr6;have hB31:=hB31.trans mu165.g;have h42:=Cz mu165.g h42;have h148:=Cz mu165.g h148
       try dsimp only
       refine cw (W:=W164) y167 hB31 ?_ hq;exact⟨_,_,_,_,rfl,E0,o166⟩
  ·intro s169 W170 sg171 hS172 iv hq;obtain⟨d20,d21,d22,d23,rfl,E0,o19⟩:=iv;exact⟨.ref p3,rfl,hq p3 W170 E0 fr6 o19⟩
theorem C6{f:Addr}{fd:De}(F:Fun K "_law_turnover" "_law_turnover" (tp 54) f fd):FnOk P w K mg base CX0 (1) f fd ["_law_card_here"] (dD (qA K) (rs<|qA K)<|B4):=by
 have SC:FnScope ["_law_card_here","_law_holes_here"] ["_law_card_here"] (defScope<|tp 54):=by walk_at "F"
 refine F.ok SC (fun vs H Q E h=>?_)<|fun cdv A outer s H vs Q E hr h=>?_;·obtain⟨_,_,_,_,rfl,_⟩:=h;rfl
 ·obtain⟨W0,Z01,Z0h,rfl,rfl,Z00,Er,hq⟩:=h;refine⟨_,(af (dn 1<|aH (aY (K:=K) rfl) (pv 0) ae<|fun _ _=>rfl)
   (ag (ay (bc (a8 (aH cq aD (ff (K:=K) rfl rfl aD (a8 (aH (aY (K:=K) rfl) (pv 0) ae (fun _ _=>rfl)) aa)) (fun _ _=>rfl)) (a8 (ai cj (ai cj (ai cj (aH cq (pv 1) ae (fun _ _=>rfl)) (aH cq (pv 1) ae (fun _ _=>rfl))) (aH cq (pv 1) ae (fun _ _=>rfl))) (aH cq (pv 1) ae (fun _ _=>rfl))) (a8 (ai aP (ai fV ae (aH (aY (K:=K) rfl) (pv 0) ae (fun _ _=>rfl))) ae) aa))))))),?_⟩
  have E0:Ext W0 W0:=.refl W0;unfold B4 at hq;refine aq (Er:=Er) (bw (f:=fun(b:Cd)=>b.2.1) nh<|aX Z00)<|fun v3 W1 e2 h4=>?_;cases h4;have E0:=E0.trans e2;have Z00:=Cz e2.g Z00;exact aO (Er:=Er) (dz (K:=K) (cv (aE (x:=CI "ZS") (l:=[90,83]) (du _ _ (by decide +kernel))) (hW (aE (x:=CI "SZ") (l:=[83,90]) (du _ _ (by decide +kernel)))<|bw (f:=fun(b:Cd)=>b.1) oI<|aX Z00)) (dR (dR (dR (cv cR ah)<|cv cR ah)<|cv cR ah)<|cv cR ah) (aA (fun _=>by decide)<|ba ah<|bw (f:=fun(b:Cd)=>b.2.2) m7<|aX Z00))<|DF hq fun y14 hq v15 W16 e17 h18=>hq v15 W16 (E0.trans e17) h18
theorem C7{f:Addr}{fd:De}(F:Fun K "_law_back" "_law_back" (tp 55) f fd):FnOk P w K mg base CX0 (1) f fd ["_law_turns_here"] (dD isS (rs isS)<|B5):=by
 have SC:FnScope ["_law_turns_here"] ["_law_turns_here"] (defScope<|tp 55):=by walk_at "F"
 refine F.ok SC (fun vs H Q E h=>?_)<|fun cdv A outer s H vs Q E hr h=>?_;·obtain⟨_,_,_,_,rfl,_⟩:=h;rfl
 ·obtain⟨W0,Z06,_,rfl,rfl,Z0J,Er,hq⟩:=h;cases Z0J;refine⟨_,(ag (ay (jM (K:=K) rfl aD (a8 (fw (N:=["_law_turn"]) (cap:=[none]) (gY rfl (by decide +kernel) rfl (by decide +kernel) (by rfl) (by rfl)) rfl (jw<|pv 0) (fun _ _ _ _=>(bo (i:=0) (show Ee (["_law_turn"]:List Str) by decide +kernel) rfl (by walk_at "L"))) (fun _ _ _ _=>cZ)<|fun _ _ _ _=>(aH cq aD (ff (K:=K) rfl rfl aD<|a8 (pv 0) aa)<|fun _ _=>rfl)) aa)))),?_⟩;have E0:Ext W0 W0:=.refl W0;rw[show L2.start ["_law_turns_here"] [.str (sOf Z06)]=[some (.str<|sOf Z06)]from rfl];unfold B5 at hq;exact aO (Er:=Er) (m8 (du _ _ (by decide +kernel)) (Gh (fD (jI cR) fun W3 a1 v2 e4 h5 Q9 k10=>by
   cases h5;refine gn ?_;exact⟨by simp[Keep,aZ],((cv (aE (x:=CI "fib") (l:=[102,105,98]) (du _ _ (by decide +kernel))) (hW (aE (x:=CI "bif") (l:=[98,105,102]) (du _ _ (by decide +kernel))) cR)):EV Er _ [some (.str (sOf a1))] _ _ _) _ (.refl _) _ k10⟩))) (DF hq fun y12 hq v13 W14 e15 h16=>hq v13 W14 (E0.trans e15) h16)
theorem C8{f:Addr}{fd:De}(F:Fun K "_law_roll" "_law_roll" (tp 56) f fd)(h_range:mg "range"=none):FnOk P w K mg base CX0 (1) f fd ["_law_card_here","_law_many"] (bQ (qA K) isI (rs<|qA K)<|B6):=by
 have SC:FnScope ["_law_card_here","_law_many","_law_holes_here"] ["_law_card_here","_law_many"] (defScope<|tp 56):=by walk_at "F"
 refine F.ok SC (fun vs H Q E h=>?_)<|fun cdv A outer s H vs Q E hr h=>?_;·obtain⟨_,_,_,_,_,_,rfl,_⟩:=h;rfl
 ·obtain⟨W0,Z01,Z0r,Z0h,_,rfl,rfl,Z00,Z1P,Er,hq⟩:=h;cases Z1P
  refine⟨_,(af (dn 2 (jM (K:=K) rfl aD (a8 (fw (N:=["_law_k","_law_card_here","_law_many"]) (cap:=[none,some 0,some 1]) (gY rfl (by decide +kernel) rfl (by decide +kernel) (by rfl) (by rfl)) rfl (gq rfl h_range<|a8 ae aa) (fun _ _ _ _=>(bo (i:=0) (show Ee (["_law_k","_law_card_here","_law_many"]:List Str) by decide +kernel) rfl (by walk_at "L"))) (fun _ _ _ _=>cZ)<|fun _ _ _ _=>(aH cq (aH (aY (K:=K) rfl) (pv 1) ae<|fun _ _=>rfl) (ai aP (ai fV (pv 0)<|pv 2) ae)<|fun _ _=>rfl)) aa)))
   (ag (ay (bc (a8 (aH (aY (K:=K) rfl) (pv 0) ae (fun _ _=>rfl)) (a8 (pv 2) (a8 (ai aP (ai bK (aH (aY (K:=K) rfl) (pv 0) ae (fun _ _=>rfl)) (pv 1)) ae) aa))))))),?_⟩
  have E0:Ext W0 W0:=.refl W0;rw[show L2.start ["_law_card_here","_law_many","_law_holes_here"] [Z0h,.int Z0r]=[some Z0h,some<|.int Z0r,none]from rfl];unfold B6 at hq;refine aq (Er:=Er) (m8 (du _ _ (by decide +kernel)) (Gh (fD (hX ah) fun W5 a3 v4 e6 h7 Q11 k12=>by
   have h8:=Dv (R:=sh (qA K)) e6 Z00;cases h7;refine gn ?_;exact⟨by simp[Keep,aZ],((cv (bw (f:=fun(b:Cd)=>b.2.1) nh (aX h8)) (aA (fun _=>by decide) (ba bh bh))):EV Er _ [some (.int a3),some Z0h,some (.int Z0r)] _ _ _) _ (.refl _) _ k12⟩))) ((CA hq).imp fun y15 hq v16 W1 e2 h17=>?_)
  cases h17;have E0:=E0.trans e2;have Z00:=Cz e2.g Z00;exact aO (Er:=Er) (dz (K:=K) (bw (f:=fun(b:Cd)=>b.1) oI<|aX Z00) cR (aA (fun _=>by decide)<|ba (bw (f:=fun(b:Cd)=>b.2.2) m7<|aX Z00) bh))<|fun v18 W19 e20 h21=>hq v18 W19 (E0.trans e20) h21
theorem C9{f:Addr}{fd:De}(F:Fun K "_law_seen" "_law_seen" (tp 57) f fd){jh:Cd->Tx->Res Cd}(Z0Z:Cal P w K mg base "_law_behind" ["_law_card_here","_law_turn"] (2) (bQ (qA K) isS (rs<|qA K) jh))(h_sorted:mg "sorted"=none):FnOk P w K mg base CX0 (3) f fd ["_law_card_here","_law_turns_here"] (bQ (qA K) isS (ro isI)<|B7 jh):=by
 have SC:FnScope ["_law_card_here","_law_turns_here","_law_out","_law_turn","_law_hole"] ["_law_card_here","_law_turns_here"] (defScope<|tp 57):=by walk_at "F"
 refine F.ok SC (fun vs H Q E h=>?_)<|fun cdv A outer s H vs Q E hr h=>?_;·obtain⟨_,_,_,_,_,_,rfl,_⟩:=h;rfl
 ·obtain⟨W0,Z01,Z06,Z0h,_,rfl,rfl,Z00,Z0J,Er,hq⟩:=h;cases Z0J;refine⟨_,(af (dn 2<|bE aa)
   (af (cE DG rfl (jw<|pv 1) (eU 3) (af (dn 0<|di Z0Z<|a8 (pv 0)<|a8 (pv 3) aa)
   (ag (cE DG rfl (bV (K:=K) rfl (bE (a8 (aH (aY (K:=K) rfl) (pv 0) ae (fun _ _=>rfl)) (a8 (ai aP (ai bK (aH (aY (K:=K) rfl) (pv 0) ae (fun _ _=>rfl)) ae) ae) aa)))) (eU 4) (ag (bO (aI (gE (K:=K) rfl) (pv 4) (pv 2) (by with_unfolding_all rfl)) (ag (fo (d6 (K:=K) rfl (pv 2) (a8 (pv 4) aa)))) aS))))))
   (ag (ay (ar (lX (K:=K) rfl) (by rfl) h_sorted Im (a8 (pv 2) aa)))))),?_⟩
  have E0:Ext W0 W0:=.refl W0;unfold B7 at hq;refine dv (Er:=Er) (gu (R:=isI))<|fun p3 W1 e2 hp4 o5=>?_;have fr6:=bg E0.h hp4;have E0:=E0.trans e2;have Z00:=Cz e2.g Z00;refine dh (Er:=Er) (f:=(AD jh)) (s0:=(Z01,([]:List Int))) (Iv:=fun(s9:(Cd×(List Int)))(W10:Wd)(g11:St)=>∃(v12:V)(d15:Option V)(d16:Option V),g11=[some v12,some<|.str<|sOf Z06,some<|.ref p3,d16,d15]/\Ext W0 W10/\(qA K) W10.G s9.1 v12/\Ow isI W10 p3 s9.2) (jI cR) (CA hq) ?_ ?_ ?_
  ·intro W28 e29;have E0:=E0.trans e29;have Z00:=Cz e29.g Z00;have o5:=o5.mono e29;exact⟨_,_,_,rfl,E0,Z00,o5⟩
  ·intro Wb17 W18 W19 a7 v20 s8 sg21 P22 hW23 hB24 iv e25 h26 hq;obtain⟨v12,d15,d16,rfl,E0,h13,o14⟩:=iv;have E0:=E0.trans e25;have hB24:=hB24.trans e25.g;have o14:=o14.mono e25;have h13:=Cz e25.g h13;cases h26;refine gn (σ':=[some v12,some<|.str<|sOf Z06,some<|.ref p3,some<|.str<|sOf a7,d15]) ?_;unfold AD at hq;refine aq (Er:=Er) (bf (aX h13) cR)<|(CA hq).imp fun y34 hq v35 W32 e33 h36=>?_;have E0:=E0.trans e33;have hB24:=hB24.trans e33.g;have o14:=o14.mono e33;refine oM (Er:=Er) (f:=zL) (s0:=s8.2) (Iv:=fun(s39:(List Int))(W40:Wd)(g41:St)=>∃(d43:Option V),g41=[some v35,some<|.str<|sOf Z06,some<|.ref p3,some<|.str<|sOf a7,d43]/\Ext W0 W40/\Ow isI W40 p3 s39) (cJ (Ey (bX (az (bw (f:=fun(b:Cd)=>b.2.2) m7<|aX h36) (az (aA (fun _=>by decide)<|ba (bw (f:=fun(b:Cd)=>b.2.2) m7<|aX h36) ah)<|bW (R:=isI)))))) (CA hq) ?_ ?_ ?_
   ·intro W55 e56;have E0:=E0.trans e56;have hB24:=hB24.trans e56.g;have o14:=o14.mono e56;have h36:=Cz e56.g h36;exact⟨_,rfl,E0,o14⟩
   ·intro Wb44 W45 W46 a37 v47 s38 sg48 P49 hW50 hB51 iv e52 h53 hq;obtain⟨d43,rfl,E0,o42⟩:=iv;have hB24:=hB24.trans hW50;have h36:=Cz hW50 h36;have E0:=E0.trans e52;have hB24:=hB24.trans e52.g;have hB51:=hB51.trans e52.g;have o42:=o42.mono e52;have h36:=Cz e52.g h36;cases h53;refine gn (σ':=[some v35,some<|.str<|sOf Z06,some<|.ref p3,some<|.str<|sOf a7,some<|.int a37]) ?_;unfold zL at hq;refine mf (Er:=Er) (Iv:=fun(s74:(List Int))(W75:Wd)(g76:St)=>g76=[some v35,some<|.str<|sOf Z06,some<|.ref p3,some<|.str<|sOf a7,some<|.int a37]/\Ext W0 W75/\Ow isI W75 p3 s74) (aM<|jK bh<|eP o42) (CA hq) ?_ ?_ ?_
    ·intro W59 N62 e60 hN63 hq;have hs64:=e60.g;have E0:=E0.trans e60;have hB24:=hB24.trans e60.g;have hB51:=hB51.trans e60.g;have o42:=o42.mono e60;have h36:=Cz e60.g h36;refine gR (Er:=Er) o42 bh<|(CA hq).imp fun y68 hq W65 mu66 o67=>?_;have E0:=mu66.e _ E0 fr6;have hB24:=hB24.trans mu66.g;have hB51:=hB51.trans mu66.g;have hs64:=hs64.trans mu66.g;have h36:=Cz mu66.g h36;exact hN63 y68 W65 _ hs64 ⟨rfl,E0,o67⟩ hq
    ·intro W59 N62 e60 hN63 hq;have hs69:=e60.g;have E0:=E0.trans e60;have hB24:=hB24.trans e60.g;have hB51:=hB51.trans e60.g;have o42:=o42.mono e60;have h36:=Cz e60.g h36
     try dsimp only[aL]
     exact hN63 s38 W59 _ hs69 ⟨rfl,E0,o42⟩ hq
    ·intro s70 W71 sg72 hS73 iv hq;obtain⟨rfl,E0,o77⟩:=iv;have hB24:=hB24.trans hS73;have hB51:=hB51.trans hS73;have h36:=Cz hS73 h36
     try dsimp only
     refine cw (W:=W71) s70 hB51 ?_ hq;exact⟨_,rfl,E0,o77⟩
   ·intro s78 W79 sg80 hS81 iv hq;obtain⟨d43,rfl,E0,o42⟩:=iv;have hB24:=hB24.trans hS81;have h36:=Cz hS81 h36
    try dsimp only
    refine cw (W:=W79) (y34,s78) hB24 ?_ hq;exact⟨_,_,_,rfl,E0,h36,o42⟩
  ·intro s82 W83 sg84 hS85 iv hq;obtain⟨v12,d15,d16,rfl,E0,h13,o14⟩:=iv;exact i4 (Er:=Er) (tZ<|eP o14)<|DF hq fun y86 hq p87 W88 e89 hp90 o91=>hq p87 W88 (E0.trans e89) (bg E0.h hp90) o91
theorem Ca{f:Addr}{fd:De}(F:Fun K "_law_kin" "_law_kin" (tp 58) f fd){x8:Cd->Res Cd}{x9:Tx->Res Tx}{xa:Cd->Int->Res Cd}{xb:Cd->Tx->Res (List Int)}(Z1V:Cal P w K mg base "_law_turnover" ["_law_card_here"] (1) (dD (qA K) (rs<|qA K) x8))(Z37:Cal P w K mg base "_law_back" ["_law_turns_here"] (1) (dD isS (rs isS) x9))(Z38:Cal P w K mg base "_law_roll" ["_law_card_here","_law_many"] (1) (bQ (qA K) isI (rs<|qA K) xa))(Z39:Cal P w K mg base "_law_seen" ["_law_card_here","_law_turns_here"] (3) (bQ (qA K) isS (ro isI) xb))(h_range:mg "range"=none):FnOk P w K mg base CX0 (4) f fd ["_law_card_here","_law_turns_here","_law_cell"] (eF (qA K) isS isI (rs<|isT2 K (qA K) isS)<|B8 x8 x9 xa xb):=by
 have SC:FnScope ["_law_card_here","_law_turns_here","_law_cell","_law_known","_law_hole","_law_colour"] ["_law_card_here","_law_turns_here","_law_cell"] (defScope<|tp 58):=by walk_at "F"
 refine F.ok SC (fun vs H Q E h=>?_)<|fun cdv A outer s H vs Q E hr h=>?_;·obtain⟨_,_,_,_,_,_,_,_,rfl,_⟩:=h;rfl
 ·obtain⟨W0,Z01,Z06,Z05,Z0h,_,_,rfl,rfl,Z00,Z0J,Z0X,Er,hq⟩:=h;cases Z0J;cases Z0X;refine⟨_,(af (bO (aI cS (ai aP (pv 2) ae) ae<|aJ _) (af (dn 0<|di Z1V<|a8 (pv 0) aa)
   (ag (dn 1 (di Z37 (a8 (pv 1) aa))))) aS)
   (af (dn 0<|di Z38<|a8 (pv 0)<|a8 (ai aP (ai bS (pv 2) ae) ae) aa)
   (af (bO (aI cS (ai aP (ai bS (pv 2) ae) ae) ae<|aJ _) (af (dn 3<|di Z39<|a8 (pv 0)<|a8 (pv 1) aa)
   (ag (cE DG rfl (gq rfl h_range<|a8 ae aa) (eU 4) (ag (bO (aI (gE (K:=K) rfl) (pv 4) (pv 3) (by with_unfolding_all rfl)) (af (dn 5<|aH cq aD (ai aP (ai bK (ai bS (pv 2) ae)<|ai eW ae<|pv 4) ae)<|fun _ _=>rfl)
   (ag (dn 0 (bc (a8 (aH (aY (K:=K) rfl) (pv 0) ae (fun _ _=>rfl)) (a8 (ai cj (ai cj (jr sW (aH (aY (K:=K) rfl) (pv 0) ae (fun _ _=>rfl)) lN (j8 (pv 4))) (pv 5)) (jr sW (aH (aY (K:=K) rfl) (pv 0) ae (fun _ _=>rfl)) (j8 (ai bK (pv 4) ae)) lN)) (a8 (aH (aY (K:=K) rfl) (pv 0) ae (fun _ _=>rfl)) aa))))))) aS))))) aS)
   (ag (ay (bc (a8 (pv 0) (a8 (pv 1) aa)))))))),?_⟩
  have E0:Ext W0 W0:=.refl W0;unfold B8 at hq;refine dF (Er:=Er) (Iv:=fun(s22:(Cd×Tx))(W23:Wd)(g24:St)=>∃(v25:V),g24=[some v25,some<|.str<|sOf s22.2,some<|.int Z05,none,none,none]/\Ext W0 W23/\(qA K) W23.G s22.1 v25) (aM (eZ (aA (fun _=>by decide) bh) ah)) (CA hq) ?_ ?_ ?_
  ·intro W1 N4 e2 hN5 hq;have hs6:=e2.g;have E0:=E0.trans e2;have Z00:=Cz e2.g Z00;refine aq (Er:=Er) (cP<|aX Z00)<|(CA hq).imp fun y9 hq v10 W7 e8 h11=>?_;have E0:=E0.trans e8;have hs6:=hs6.trans e8.g;refine eH (Er:=Er) (cP cR)<|(CA hq).imp fun y14 hq v15 W12 e13 h16=>?_;cases h16;have E0:=E0.trans e13;have hs6:=hs6.trans e13.g;have h11:=Cz e13.g h11;exact hN5 (y9,y14) W12 _ hs6 ⟨_,rfl,E0,h11⟩ hq
  ·intro W1 N4 e2 hN5 hq;have hs17:=e2.g;have E0:=E0.trans e2;have Z00:=Cz e2.g Z00
   try dsimp only[aL]
   exact hN5 (Z01,Z06) W1 _ hs17 ⟨_,rfl,E0,Z00⟩ hq
  ·intro s18 W19 sg20 hS21 iv hq;obtain⟨v25,rfl,E0,h26⟩:=iv;refine aq (Er:=Er) (bf (aX h26) (aA (fun _=>by decide) (aA (fun _=>⟨by decide,by decide⟩) bh)))<|(CA hq).imp fun y29 hq v30 W27 e28 h31=>?_;have E0:=E0.trans e28;refine dF (Er:=Er) (Iv:=fun(s111:Cd)(W112:Wd)(g113:St)=>∃(v114:V)(d116:Option V)(d117:Option V)(d118:Option V),g113=[some v114,some<|.str<|sOf s18.2,some<|.int Z05,d116,d117,d118]/\Ext W0 W112/\(qA K) W112.G s111 v114) (aM (eZ (aA (fun _=>by decide) (aA (fun _=>⟨by decide,by decide⟩) bh)) ah)) (CA hq) ?_ ?_ ?_
   ·intro W32 N35 e33 hN36 hq;have hs37:=e33.g;have E0:=E0.trans e33;have h31:=Cz e33.g h31;refine aq (Er:=Er) (Ey<|iE (aX h31) cR)<|(CA hq).imp fun y40 hq v41 W38 e39 h42=>?_;have E0:=E0.trans e39;have hs37:=hs37.trans e39.g;have h31:=Cz e39.g h31;refine oM (Er:=Er) (f:=(zM Z05 y40)) (s0:=y29) (Iv:=fun(s45:Cd)(W46:Wd)(g47:St)=>∃(v48:V)(d50:Option V)(d51:Option V),g47=[some v48,some<|.str<|sOf s18.2,some<|.int Z05,some v41,d51,d50]/\Ext W0 W46/\(qA K) W46.G s45 v48) (hX ah) (CA hq) ?_ ?_ ?_
    ·intro W63 e64;have E0:=E0.trans e64;have hs37:=hs37.trans e64.g;have h31:=Cz e64.g h31;have h42:=Cz e64.g h42;exact⟨_,_,_,rfl,E0,h31⟩
    ·intro Wb52 W53 W54 a43 v55 s44 sg56 P57 hW58 hB59 iv e60 h61 hq;obtain⟨v48,d50,d51,rfl,E0,h49⟩:=iv;have hs37:=hs37.trans hW58;have h42:=Cz hW58 h42;have E0:=E0.trans e60;have hs37:=hs37.trans e60.g;have hB59:=hB59.trans e60.g;have h42:=Cz e60.g h42;have h49:=Cz e60.g h49;cases h61;refine gn (σ':=[some v48,some<|.str<|sOf s18.2,some<|.int Z05,some v41,some<|.int a43,d50]) ?_;unfold zM at hq;refine mf (Er:=Er) (Iv:=fun(s95:Cd)(W96:Wd)(g97:St)=>∃(v98:V)(d100:Option V),g97=[some v98,some<|.str<|sOf s18.2,some<|.int Z05,some v41,some<|.int a43,d100]/\Ext W0 W96/\(qA K) W96.G s95 v98) (aM<|jK bh<|FC<|aX h42) (CA hq) ?_ ?_ ?_
     ·intro W67 N70 e68 hN71 hq;have hs72:=e68.g;have E0:=E0.trans e68;have hs37:=hs37.trans e68.g;have hB59:=hB59.trans e68.g;have h42:=Cz e68.g h42;have h49:=Cz e68.g h49;refine aq (Er:=Er) (cv (aE (x:=CI "abcdefghijklmnopqrstuvwxyz") (l:=[97,98,99,100,101,102,103,104,105,106,107,108,109,110,111,112,113,114,115,116,117,118,119,120,121,122]) (du _ _ (by decide +kernel))) (aA (fun _=>by decide) (ba (aA (fun _=>⟨by decide,by decide⟩) bh)<|jE ah bh)))<|(CA hq).imp fun y78 hq v79 W73 e74 h80=>?_;cases h80;have E0:=E0.trans e74;have hs37:=hs37.trans e74.g;have hB59:=hB59.trans e74.g;have hs72:=hs72.trans e74.g;have h42:=Cz e74.g h42;have h49:=Cz e74.g h49;refine eH (Er:=Er) (dz (K:=K) (bw (f:=fun(b:Cd)=>b.1) oI<|aX h49) (dR (dR (pZ (bw (f:=fun(b:Cd)=>b.2.1) nh<|aX h49) tO<|tP bh) cR)<|pZ (bw (f:=fun(b:Cd)=>b.2.1) nh<|aX h49) (tP<|ba bh ah) tO)<|bw (f:=fun(b:Cd)=>b.2.2) m7<|aX h49)<|(CA hq).imp fun y87 hq v88 W81 e82 h89=>?_;have E0:=E0.trans e82;have hs37:=hs37.trans e82.g;have hB59:=hB59.trans e82.g;have hs72:=hs72.trans e82.g;have h42:=Cz e82.g h42;exact hN71 y87 W81 _ hs72 ⟨_,_,rfl,E0,h89⟩ hq
     ·intro W67 N70 e68 hN71 hq;have hs90:=e68.g;have E0:=E0.trans e68;have hs37:=hs37.trans e68.g;have hB59:=hB59.trans e68.g;have h42:=Cz e68.g h42;have h49:=Cz e68.g h49
      try dsimp only[aL]
      exact hN71 s44 W67 _ hs90 ⟨_,_,rfl,E0,h49⟩ hq
     ·intro s91 W92 sg93 hS94 iv hq;obtain⟨v98,d100,rfl,E0,h99⟩:=iv;have hs37:=hs37.trans hS94;have hB59:=hB59.trans hS94;have h42:=Cz hS94 h42
      try dsimp only
      refine cw (W:=W92) s91 hB59 ?_ hq;exact⟨_,_,_,rfl,E0,h99⟩
    ·intro s102 W103 sg104 hS105 iv hq;obtain⟨v48,d50,d51,rfl,E0,h49⟩:=iv;have hs37:=hs37.trans hS105;exact hN36 s102 W103 _ hs37 ⟨_,_,_,_,rfl,E0,h49⟩ hq
   ·intro W32 N35 e33 hN36 hq;have hs106:=e33.g;have E0:=E0.trans e33;have h31:=Cz e33.g h31
    try dsimp only[aL]
    exact hN36 y29 W32 _ hs106 ⟨_,_,_,_,rfl,E0,h31⟩ hq
   ·intro s107 W108 sg109 hS110 iv hq;obtain⟨v114,d116,d117,d118,rfl,E0,h115⟩:=iv;exact aO (Er:=Er) (bz (K:=K) (aX h115) cR)<|fun v119 W120 e121 h122=>hq v119 W120 (E0.trans e121) h122
theorem Cb{f:Addr}{fd:De}(F:Fun K "_law_small" "_law_small" (tp 59) f fd){vR:Int->Res Cd}{iw:List Int->Int->Res Int}{x5:Int->Int->Res Tx}{x6:(List Pl)->Int->Bool->Res (List Pl)}{pb:Cd->Tx->Res (List Pl)}{xc:Cd->Tx->Int->Res (Cd×Tx)}(Z2c:Cal P w K mg base "_law_card" ["_law_cell"] (3) (dD isI (rs<|qA K) vR))(Z0H:Cal P w K mg base "_law_at" ["_law_script","_law_k"] (1) (bQ (isScr K) isI (rs isI) iw))(Z2u:Cal P w K mg base "_law_turns" ["_law_cell","_law_many"] (2) (bQ isI isI (rs isS) x5))(Z2v:Cal P w K mg base "_law_marks" ["_law_places_here","_law_cell","_law_lies"] (2) (eF (qD K) isI isB (ro<|qB K) x6))(Z10:Cal P w K mg base "_law_places" ["_law_card_here","_law_turns_here"] (3) (bQ (qA K) isS (ro<|qB K) pb))(Z3S:Cal P w K mg base "_law_kin" ["_law_card_here","_law_turns_here","_law_cell"] (4) (eF (qA K) isS isI (rs<|isT2 K (qA K) isS) xc)):FnOk P w K mg base CX0 (5) f fd ["_law_script","_law_most"] (bQ (isScr K) isI (rs<|isT3 K (qA K) (qD K) isI)<|B9 vR iw x5 x6 pb xc):=by
 have SC:FnScope ["_law_script","_law_most","_law_card_here","_law_turns_here","_law_cell","_law_strip","_law_side"] ["_law_script","_law_most"] (defScope<|tp 59):=by walk_at "F"
 refine F.ok SC (fun vs H Q E h=>?_)<|fun cdv A outer s H vs Q E hr h=>?_;·obtain⟨_,_,_,_,_,_,rfl,_⟩:=h;rfl
 ·obtain⟨W0,Z0s,Z3C,Z0O,_,rfl,rfl,Z03,Z9O,Er,hq⟩:=h;cases Z9O;refine⟨_,(af (dn 2<|di Z2c<|a8 (di Z0H<|a8 (pv 0)<|a8 ae aa) aa)
   (af (dn 3<|di Z2u<|a8 (di Z0H<|a8 (pv 0)<|a8 ae aa)<|a8 (ai aP (di Z0H<|a8 (pv 0)<|a8 ae aa)<|ai bK (pv 1) ae) aa)
   (af (dn 4<|di Z0H<|a8 (pv 0)<|a8 ae aa)
   (af (dn 5<|di Z2v<|a8 (di Z10<|a8 (pv 2)<|a8 (pv 3) aa)<|a8 (ai bS (pv 4) ae)<|a8 (dg cS (ai aP (pv 4) ae) ae<|aJ _) aa)
   (af (dn 6<|ai bS (di Z0H<|a8 (pv 0)<|a8 ae aa) ae)
   (af (bO (aI cS (ai aP (pv 6) ae) ae<|aJ _) (ag<|dn 2<|aH (aY (K:=K) rfl) (di Z3S<|a8 (pv 2)<|a8 (pv 3)<|a8 (ai bS (pv 6) ae) aa) ae<|fun _ _=>rfl) aS)
   (af (bO (aI cS (ai aP (pv 6) ae) ae<|aJ _) (ag<|dn 2<|di Z2c<|a8 (ai bS (pv 6) ae) aa) aS)
   (ag (ay (bc (a8 (pv 2) (a8 (pv 5) (a8 (ai aP (di Z0H (a8 (pv 0) (a8 ae aa))) ae) aa))))))))))))),?_⟩
  have E0:Ext W0 W0:=.refl W0;unfold B9 at hq;refine aq (Er:=Er) (cP<|bf (aX Z03) ah)<|(CA hq).imp fun y4 hq v5 W1 e2 h6=>?_;have E0:=E0.trans e2;have Z03:=Cz e2.g Z03;refine aq (Er:=Er) (bf (bf (aX Z03) ah)<|jF (bf (aX Z03) ah)<|ba bh ah)<|(CA hq).imp fun y12 hq v13 W7 e8 h14=>?_;cases h14;have E0:=E0.trans e8;have Z03:=Cz e8.g Z03;have h6:=Cz e8.g h6;refine aq (Er:=Er) (bf (aX Z03) ah)<|(CA hq).imp fun y17 hq v18 W15 e16 h19=>?_;cases h19;have E0:=E0.trans e16;have Z03:=Cz e16.g Z03;have h6:=Cz e16.g h6;refine aq (Er:=Er) (Ey (gv (Ey<|iE (aX h6) cR) (aA (fun _=>⟨by decide,by decide⟩) bh) (eZ (aA (fun _=>by decide) bh) ah)))<|(CA hq).imp fun y23 hq v24 W20 e21 h25=>?_;have E0:=E0.trans e21;have Z03:=Cz e21.g Z03;have h6:=Cz e21.g h6;refine aq (Er:=Er) (aA (fun _=>⟨by decide,by decide⟩)<|bf (aX Z03) ah)<|(CA hq).imp fun y29 hq v30 W26 e27 h31=>?_;cases h31;have E0:=E0.trans e27;have Z03:=Cz e27.g Z03;have h6:=Cz e27.g h6;have h25:=Cz e27.g h25;refine dF (Er:=Er) (Iv:=fun(s49:Cd)(W50:Wd)(g51:St)=>∃(v52:V),g51=[some Z0O,some<|.int Z3C,some v52,some<|.str<|sOf y12,some<|.int y17,some v24,some<|.int y29]/\Ext W0 W50/\(qA K) W50.G s49 v52) (aM (eZ (aA (fun _=>by decide) bh) ah)) (CA hq) ?_ ?_ ?_
  ·intro W32 N35 e33 hN36 hq;have hs37:=e33.g;have E0:=E0.trans e33;have Z03:=Cz e33.g Z03;have h6:=Cz e33.g h6;have h25:=Cz e33.g h25;refine eH (Er:=Er) (bw (f:=fun(b:Cd×Tx)=>b.1) Ag (gb (aX h6) cR (aA (fun _=>⟨by decide,by decide⟩) bh)))<|(CA hq).imp fun y41 hq v42 W38 e39 h43=>?_;have E0:=E0.trans e39;have hs37:=hs37.trans e39.g;have Z03:=Cz e39.g Z03;have h25:=Cz e39.g h25;exact hN36 y41 W38 _ hs37 ⟨_,rfl,E0,h43⟩ hq
  ·intro W32 N35 e33 hN36 hq;have hs44:=e33.g;have E0:=E0.trans e33;have Z03:=Cz e33.g Z03;have h6:=Cz e33.g h6;have h25:=Cz e33.g h25
   try dsimp only[aL]
   exact hN36 y4 W32 _ hs44 ⟨_,rfl,E0,h6⟩ hq
  ·intro s45 W46 sg47 hS48 iv hq;obtain⟨v52,rfl,E0,h53⟩:=iv;have Z03:=Cz hS48 Z03;have h25:=Cz hS48 h25;refine dF (Er:=Er) (Iv:=fun(s70:Cd)(W71:Wd)(g72:St)=>∃(v73:V),g72=[some Z0O,some<|.int Z3C,some v73,some<|.str<|sOf y12,some<|.int y17,some v24,some<|.int y29]/\Ext W0 W71/\(qA K) W71.G s70 v73) (aM (eZ (aA (fun _=>by decide) bh) ah)) (CA hq) ?_ ?_ ?_
   ·intro W54 N57 e55 hN58 hq;have hs59:=e55.g;have E0:=E0.trans e55;have Z03:=Cz e55.g Z03;have h25:=Cz e55.g h25;have h53:=Cz e55.g h53;refine eH (Er:=Er) (cP (aA (fun _=>⟨by decide,by decide⟩) bh))<|(CA hq).imp fun y62 hq v63 W60 e61 h64=>?_;have E0:=E0.trans e61;have hs59:=hs59.trans e61.g;have Z03:=Cz e61.g Z03;have h25:=Cz e61.g h25;exact hN58 y62 W60 _ hs59 ⟨_,rfl,E0,h64⟩ hq
   ·intro W54 N57 e55 hN58 hq;have hs65:=e55.g;have E0:=E0.trans e55;have Z03:=Cz e55.g Z03;have h25:=Cz e55.g h25;have h53:=Cz e55.g h53
    try dsimp only[aL]
    exact hN58 s45 W54 _ hs65 ⟨_,rfl,E0,h53⟩ hq
   ·intro s66 W67 sg68 hS69 iv hq;obtain⟨v73,rfl,E0,h74⟩:=iv;have Z03:=Cz hS69 Z03;have h25:=Cz hS69 h25;exact aO (Er:=Er) (dz (K:=K) (aX h74) (aX h25) (aA (fun _=>by decide)<|bf (aX Z03) ah))<|DF hq fun y77 hq v78 W79 e80 h81=>hq v78 W79 (E0.trans e80) h81
theorem Cc{f:Addr}{fd:De}(F:Fun K "_law_all" "_law_all" (tp 61) f fd)(h_range:mg "range"=none):FnOk P w K mg base CX0 (1) f fd ["_law_many"] (dD isI (rs<|isL isS)<|Ba):=by
 have SC:FnScope ["_law_many","_law_out","_law_k","_law_longer","_law_text"] ["_law_many"] (defScope<|tp 61):=by walk_at "F"
 refine F.ok SC (fun vs H Q E h=>?_)<|fun cdv A outer s H vs Q E hr h=>?_;·obtain⟨_,_,_,_,rfl,_⟩:=h;rfl
 ·obtain⟨W0,Z0r,_,rfl,rfl,Z1P,Er,hq⟩:=h;cases Z1P;refine⟨_,(af (dn 1<|bE<|a8 aD aa)
   (af (cE DG rfl (gq rfl h_range<|a8 (pv 0) aa) (eU 2) (af (dn 3<|bE aa)
   (af (cE DG rfl (bV (K:=K) rfl<|pv 1) (eU 4)<|ag<|dn 3<|ai fW (pv 3)<|bE<|a8 (ai cj (pv 4) aD)<|a8 (ai cj (pv 4) aD)<|a8 (ai cj (pv 4) aD) aa)
   (ag (dn 1 (pv 3))))))
   (ag (ay (pv 1))))),?_⟩
  have E0:Ext W0 W0:=.refl W0;unfold Ba at hq;refine aq (Er:=Er) (Ey (bX (az (aE (x:=CI "") (l:=[]) (du _ _ (by decide +kernel)))<|bW (R:=isS))))<|fun v3 W1 e2 h4=>?_;have E0:=E0.trans e2;refine dh (Er:=Er) (f:=AE) (s0:=[([]:Tx)]) (Iv:=fun(s7:(List Tx))(W8:Wd)(g9:St)=>∃(v10:V)(d12:Option V)(d13:Option V)(d14:Option V),g9=[some (.int Z0r),some v10,d14,d12,d13]/\Ext W0 W8/\(isL isS) W8.G s7 v10) (hX bh) (CA hq) ?_ ?_ ?_
  ·intro W26 e27;have E0:=E0.trans e27;have h4:=Cz e27.g h4;exact⟨_,_,_,_,rfl,E0,h4⟩
  ·intro Wb15 W16 W17 a5 v18 s6 sg19 P20 hW21 hB22 iv e23 h24 hq;obtain⟨v10,d12,d13,d14,rfl,E0,h11⟩:=iv;have E0:=E0.trans e23;have hB22:=hB22.trans e23.g;have h11:=Cz e23.g h11;cases h24;refine gn (σ':=[some (.int Z0r),some v10,some<|.int a5,d12,d13]) ?_;unfold AE at hq;refine aq (Er:=Er) (Ey<|gu (R:=isS))<|fun v32 W30 e31 h33=>?_;have E0:=E0.trans e31;have hB22:=hB22.trans e31.g;have h11:=Cz e31.g h11;refine dh (Er:=Er) (f:=zN) (s0:=([]:List Tx)) (Iv:=fun(s36:(List Tx))(W37:Wd)(g38:St)=>∃(v39:V)(d41:Option V),g38=[some (.int Z0r),some v10,some<|.int a5,some v39,d41]/\Ext W0 W37/\(isL isS) W37.G s36 v39) (cJ<|aX h11) (CA hq) ?_ ?_ ?_
   ·intro W53 e54;have E0:=E0.trans e54;have hB22:=hB22.trans e54.g;have h11:=Cz e54.g h11;have h33:=Cz e54.g h33;exact⟨_,_,rfl,E0,h33⟩
   ·intro Wb42 W43 W44 a34 v45 s35 sg46 P47 hW48 hB49 iv e50 h51 hq;obtain⟨v39,d41,rfl,E0,h40⟩:=iv;have hB22:=hB22.trans hW48;have h11:=Cz hW48 h11;have E0:=E0.trans e50;have hB22:=hB22.trans e50.g;have hB49:=hB49.trans e50.g;have h11:=Cz e50.g h11;have h40:=Cz e50.g h40;cases h51;refine gn (σ':=[some (.int Z0r),some v10,some<|.int a5,some v39,some<|.str<|sOf a34]) ?_;unfold zN at hq;refine eH (Er:=Er) (Ey (eQ (FC<|aX h40) (Gh (bX (az (dR cR (aE (x:=CI "f") (l:=[102]) (du _ _ (by decide +kernel)))) (az (dR cR (aE (x:=CI "b") (l:=[98]) (du _ _ (by decide +kernel)))) (az (dR cR (aE (x:=CI "i") (l:=[105]) (du _ _ (by decide +kernel))))<|bW (R:=isS))))))))<|(CA hq).imp fun y65 hq v66 W57 e58 h67=>?_;have E0:=E0.trans e58;have hB22:=hB22.trans e58.g;have hB49:=hB49.trans e58.g;have h11:=Cz e58.g h11
    try dsimp only
    refine cw (W:=W57) y65 hB49 ?_ hq;exact⟨_,_,rfl,E0,h67⟩
   ·intro s68 W69 sg70 hS71 iv hq;obtain⟨v39,d41,rfl,E0,h40⟩:=iv;have hB22:=hB22.trans hS71;have h11:=Cz hS71 h11;refine eH (Er:=Er) (aX h40)<|fun v74 W72 e73 h75=>?_;have E0:=E0.trans e73;have hB22:=hB22.trans e73.g;have h40:=Cz e73.g h40
    try dsimp only
    refine cw (W:=W72) s68 hB22 ?_ hq;exact⟨_,_,_,_,rfl,E0,h75⟩
  ·intro s77 W78 sg79 hS80 iv hq;obtain⟨v10,d12,d13,d14,rfl,E0,h11⟩:=iv;exact aO (Er:=Er) (aX h11)<|fun v81 W82 e83 h84=>hq v81 W82 (E0.trans e83) h84
theorem Ce{f:Addr}{fd:De}(F:Fun K "_law_does" "_law_does" (tp 60) f fd){pb:Cd->Tx->Res (List Pl)}{j6:Cd->Tx->Res Int}(Z10:Cal P w K mg base "_law_places" ["_law_card_here","_law_turns_here"] (3) (bQ (qA K) isS (ro<|qB K) pb))(Z19:Cal P w K mg base "_law_twist" ["_law_card_here","_law_turn"] (2) (bQ (qA K) isS (rs isI) j6))(h_abs:mg "abs"=none)(h_int:mg "int"=none)(h_len:mg "len"=none)(h_zip:mg "zip"=none):FnOk P w K mg base CX0 (4) f fd ["_law_card_here","_law_strip","_law_loose","_law_bound","_law_text"] (gB (qA K) (qD K) isI isI isS (rs isB)<|Bc pb j6):=by
 have SC:FnScope ["_law_card_here","_law_strip","_law_loose","_law_bound","_law_text","_law_turn","_law_now","_law_idle","_law_place","_law_mark","_law_sign","_law_left"] ["_law_card_here","_law_strip","_law_loose","_law_bound","_law_text"] (defScope<|tp 60):=by walk_at "F"
 refine F.ok SC (fun vs H Q E h=>?_)<|fun cdv A outer s H vs Q E hr h=>?_;·obtain⟨_,_,_,_,_,_,_,_,_,_,_,_,rfl,_⟩:=h;rfl
 ·obtain⟨W0,Z01,Z1r,Z0B,Z0C,Z1z,Z0h,Z1e,_,_,_,rfl,rfl,Z00,Z0t,Z4i,Z4j,Z9Q,Er,hq⟩:=h;cases Z4i;cases Z4j;cases Z9Q
  refine⟨_,(af (bO (aI jm (ar (bJ (K:=K) rfl) (by rfl) h_len Ef<|a8 (pv 4) aa) (ar (bJ (K:=K) rfl) (by rfl) h_len Ef<|a8 (pv 1) aa)<|aJ _) (ag<|ay dA) aS)
   (af (cE DG rfl (jw<|pv 4) (eU 5)<|ag<|bO (Jz<|fj (aI jm (pv 5) aD<|aJ _)<|fj (aI jm (pv 5) aD<|aJ _)<|eN<|aI jm (pv 5) aD<|aJ _) (ag<|ay dA) aS)
   (af (dn 6 ae)
   (af (dn 7 ae)
   (af (cE DG rfl (wd (K:=K) rfl rfl h_zip<|a8 (pv 4)<|a8 (di Z10<|a8 (pv 0)<|a8 (pv 4) aa)<|a8 (pv 1) aa) (bM (K:=K) (n:=3) rfl rfl<|au (eU 5)<|au (eU 8)<|au (eU 9) bI) (af (dn 6<|ai bK (pv 6)<|di Z19<|a8 (pv 0)<|a8 (pv 5) aa)
   (af (dn 7 (ai eW (ai bK (pv 7) ae) (gr l4 (by rfl) h_int G2<|a8 (dg cS (pv 5) aD<|aJ _) aa)))
   (af (bO (Jz (mP (aI sO (ar jo (by rfl) h_abs GU<|a8 (pv 6) aa) (pv 3)<|aJ _)<|lM<|aI sO (pv 7) (pv 2)<|aJ _)) (ag<|ay dA) aS)
   (ag (cE DG rfl (gZ (K:=K) rfl rfl h_zip (a8 (pv 8) (a8 (pv 9) aa))) (bM (K:=K) (n:=2) rfl rfl (au (eU 10) (au (eU 11) bI))) (ag (bO (Jz (fj (aI jm (pv 11) aD (aJ _)) (eN (aI jm (pv 11) (pv 10) (aJ _))))) (ag (ay dA)) aS))))))))
   (ag (ay dA))))))),?_⟩
  have E0:Ext W0 W0:=.refl W0;unfold Bc at hq;refine dW (Er:=Er) (aM<|yE (wj cR)<|dU<|FC<|aX Z0t)<|(CA hq).imp fun y2 hq W3 e4=>?_;have E0:=E0.trans e4;have Z00:=Cz e4.g Z00;have Z0t:=Cz e4.g Z0t;by_cases hb150:y2=true
  ·rw[if_pos hb150]at hq ⊢;exact aO (Er:=Er) gF<|fun v5 W6 e7 h8=>hq v5 W6 (E0.trans e7) h8
  ·rw[if_neg hb150]at hq ⊢
   try dsimp only[aL]
   refine fe (Er:=Er) (f:=Bb) (s0:=()) (Iv:=fun(s11:Unit)(W12:Wd)(g13:St)=>∃(d14:Option V),g13=[some Z0h,some Z1e,some<|.int Z0B,some<|.int Z0C,some<|.str<|sOf Z1z,d14,none,none,none,none,none,none]/\Ext W0 W12) (jI cR) (CA hq) ?_ ?_ ?_
   ·intro W26 e27;have E0:=E0.trans e27;have Z00:=Cz e27.g Z00;have Z0t:=Cz e27.g Z0t;exact⟨_,rfl,E0⟩
   ·intro Wb15 W16 W17 a9 v18 s10 sg19 P20 hW21 hB22 iv e23 h24 hrt25 hq;obtain⟨d14,rfl,E0⟩:=iv;have Z00:=Cz hW21 Z00;have Z0t:=Cz hW21 Z0t;have E0:=E0.trans e23;have hB22:=hB22.trans e23.g;have Z00:=Cz e23.g Z00;have Z0t:=Cz e23.g Z0t;cases h24;refine gn (σ':=[some Z0h,some Z1e,some<|.int Z0B,some<|.int Z0C,some<|.str<|sOf Z1z,some<|.str<|sOf a9,none,none,none,none,none,none]) ?_;unfold Bb at hq;refine nk (Er:=Er) (gP (aM (jH cR (aE (x:=CI "f") (l:=[102]) (du _ _ (by decide +kernel))))) (gP (aM (jH cR (aE (x:=CI "b") (l:=[98]) (du _ _ (by decide +kernel))))) (aM (jH cR (aE (x:=CI "i") (l:=[105]) (du _ _ (by decide +kernel)))))))<|(CA hq).imp fun y30 hq W31 e32=>?_;have E0:=E0.trans e32;have hB22:=hB22.trans e32.g;have Z00:=Cz e32.g Z00;have Z0t:=Cz e32.g Z0t;by_cases hb36:y30=true
    ·rw[if_pos hb36]at hq ⊢;exact aO (Er:=Er) gF<|fun v33 W34 e35 h36=>(hrt25 _ hq) v33 W34 (E0.trans e35) h36
    ·rw[if_neg hb36]at hq ⊢
     try dsimp only[aL]
     try dsimp only
     refine cw (W:=W31) () hB22 ?_ hq;exact⟨_,rfl,E0⟩
   ·intro s37 W38 sg39 hS40 iv hq;obtain⟨d14,rfl,E0⟩:=iv;have Z00:=Cz hS40 Z00;have Z0t:=Cz hS40 Z0t;refine aq (Er:=Er) ah<|fun v43 W41 e42 h44=>?_;cases h44;have E0:=E0.trans e42;have Z00:=Cz e42.g Z00;have Z0t:=Cz e42.g Z0t;refine aq (Er:=Er) ah<|fun v47 W45 e46 h48=>?_;cases h48;have E0:=E0.trans e46;have Z00:=Cz e46.g Z00;have Z0t:=Cz e46.g Z0t;refine fe (Er:=Er) (f:=(zO j6 Z01 Z0B Z0C)) (s0:=((0:Int),(0:Int))) (Iv:=fun(s52:Ii)(W53:Wd)(g54:St)=>∃(d55:Option V)(d56:Option V)(d57:Option V)(d58:Option V)(d59:Option V),g54=[some Z0h,some Z1e,some<|.int Z0B,some<|.int Z0C,some<|.str<|sOf Z1z,d57,some<|.int s52.1,some<|.int s52.2,d58,d59,d55,d56]/\Ext W0 W53) (wm (yG cR) (iG<|Ey<|iE (aX Z00) cR)<|iG<|aX Z0t) (CA hq) ?_ ?_ ?_
    ·intro W71 e72;have E0:=E0.trans e72;have Z00:=Cz e72.g Z00;exact⟨_,_,_,_,_,rfl,E0⟩
    ·intro Wb60 W61 W62 a50 v63 s51 sg64 P65 hW66 hB67 iv e68 h69 hrt70 hq;obtain⟨d55,d56,d57,d58,d59,rfl,E0⟩:=iv;have Z00:=Cz hW66 Z00;have E0:=E0.trans e68;have hB67:=hB67.trans e68.g;have Z00:=Cz e68.g Z00;refine rB h69 fun v79 v81 v83 h80 h82 h84=>?_;cases h80;unfold zO at hq;refine aq (Er:=Er) (ba bh<|bf (aX Z00) cR)<|(CA hq).imp fun y88 hq v89 W85 e86 h90=>?_;cases h90;have E0:=E0.trans e86;have hB67:=hB67.trans e86.g;have Z00:=Cz e86.g Z00;have h82:=Cz e86.g h82;have h84:=Cz e86.g h84;refine aq (Er:=Er) (jE (ba bh ah) (qd (gO cR (aE (x:=CI "i") (l:=[105]) (du _ _ (by decide +kernel))))))<|(CA hq).imp fun y93 hq v94 W91 e92 h95=>?_;cases h95;have E0:=E0.trans e92;have hB67:=hB67.trans e92.g;have Z00:=Cz e92.g Z00;have h82:=Cz e92.g h82;have h84:=Cz e92.g h84;refine dW (Er:=Er) (tM (aM<|d5 (oJ bh) bh)<|aM<|d5 bh bh)<|(CA hq).imp fun y96 hq W97 e98=>?_;have E0:=E0.trans e98;have hB67:=hB67.trans e98.g;have Z00:=Cz e98.g Z00;have h82:=Cz e98.g h82;have h84:=Cz e98.g h84;by_cases hb141:y96=true
     ·rw[if_pos hb141]at hq ⊢;exact aO (Er:=Er) gF<|fun v99 W100 e101 h102=>(hrt70 _ hq) v99 W100 (E0.trans e101) h102
     ·rw[if_neg hb141]at hq ⊢
      try dsimp only[aL]
      refine qb (Er:=Er) (f:=AF) (s0:=()) (Iv:=fun(s105:Unit)(W106:Wd)(g107:St)=>∃(d108:Option V)(d109:Option V),g107=[some Z0h,some Z1e,some<|.int Z0B,some<|.int Z0C,some<|.str<|sOf Z1z,some<|.str<|sOf a50.1,some<|.int y88,some<|.int y93,some v81,some v83,d108,d109]/\Ext W0 W106) (m9 (j9<|aX h82)<|j9<|aX h84) (CA hq) ?_ ?_ ?_
      ·intro W121 e122;have E0:=E0.trans e122;have hB67:=hB67.trans e122.g;have Z00:=Cz e122.g Z00;have h82:=Cz e122.g h82;have h84:=Cz e122.g h84;exact⟨_,_,rfl,E0⟩
      ·intro Wb110 W111 W112 a103 v113 s104 sg114 P115 hW116 hB117 iv e118 h119 hrt120 hq;obtain⟨d108,d109,rfl,E0⟩:=iv;have hB67:=hB67.trans hW116;have Z00:=Cz hW116 Z00;have h82:=Cz hW116 h82;have h84:=Cz hW116 h84;have E0:=E0.trans e118;have hB67:=hB67.trans e118.g;have hB117:=hB117.trans e118.g;have Z00:=Cz e118.g Z00;have h82:=Cz e118.g h82;have h84:=Cz e118.g h84;refine iH h119 fun v127 v129 h128 h130=>?_;cases h128;cases h130;unfold AF at hq;refine nk (Er:=Er) (gP (aM (jH cR (aE (x:=CI "?") (l:=[63]) (du _ _ (by decide +kernel)))))<|aM<|jH cR cR)<|(CA hq).imp fun y131 hq W132 e133=>?_;have E0:=E0.trans e133;have hB67:=hB67.trans e133.g;have hB117:=hB117.trans e133.g;have Z00:=Cz e133.g Z00;have h82:=Cz e133.g h82;have h84:=Cz e133.g h84;by_cases hb137:y131=true
       ·rw[if_pos hb137]at hq ⊢;exact aO (Er:=Er) gF<|fun v134 W135 e136 h137=>(hrt70 _<|hrt120 _ hq) v134 W135 (E0.trans e136) h137
       ·rw[if_neg hb137]at hq ⊢
        try dsimp only[aL]
        try dsimp only
        refine cw (W:=W132) () hB117 ?_ hq;exact⟨_,_,rfl,E0⟩
      ·intro s138 W139 sg140 hS141 iv hq;obtain⟨d108,d109,rfl,E0⟩:=iv;have hB67:=hB67.trans hS141;have Z00:=Cz hS141 Z00;have h82:=Cz hS141 h82;have h84:=Cz hS141 h84
       try dsimp only
       refine cw (W:=W139) (y88,y93) hB67 ?_ hq;exact⟨_,_,_,_,_,rfl,E0⟩
    ·intro s143 W144 sg145 hS146 iv hq;obtain⟨d55,d56,d57,d58,d59,rfl,E0⟩:=iv;exact aO (Er:=Er) gF<|fun v147 W148 e149 h150=>hq v147 W148 (E0.trans e149) h150
theorem Cf{f:Addr}{fd:De}(F:Fun K "within" "within" (tp 33) f fd)(h_abs:mg "abs"=none):FnOk P w K mg base CX0 (1) f fd ["state","loose","bound"] (eF (qC K) isI isI (rs isB)<|Bd):=by
 have SC:FnScope ["state","loose","bound","twist","idle"] ["state","loose","bound"] (defScope<|tp 33):=by walk_at "F"
 refine F.ok SC (fun vs H Q E h=>?_)<|fun cdv A outer s H vs Q E hr h=>?_;·obtain⟨_,_,_,_,_,_,_,_,rfl,_⟩:=h;rfl
 ·obtain⟨W0,state,loose,bound,Z2p,_,_,rfl,rfl,Z22,Z0T,Z0U,Er,hq⟩:=h;cases Z0T;cases Z0U;refine⟨_,(af (eV (pv 0)<|bM (K:=K) (n:=2) rfl rfl<|au (eU 3)<|au (eU 4) bI)
   (ag (ay (jl (dg xN (ar jo (by rfl) h_abs GU (a8 (pv 3) aa)) (pv 2) (aJ _)) (jk (dg xN (pv 4) (pv 1) (aJ _))))))),?_⟩
  have E0:Ext W0 W0:=.refl W0;unfold Bd at hq;refine dE (Er:=Er) (aX Z22)<|fun v1 W2 e3 h4=>?_;have E0:=E0.trans e3;refine iH h4 fun v5 v7 h6 h8=>?_;cases h6;cases h8;exact aO (Er:=Er) (yF (d5 (oJ bh) bh)<|d5 bh bh)<|DF hq fun y9 hq v10 W11 e12 h13=>hq v10 W11 (E0.trans e12) h13
theorem Cg{f:Addr}{fd:De}(F:Fun K "twisting" "twisting" (tp 21) f fd){Z23:Addr}(Z5o:mg "STEPS"=some (.ref Z23))(Z5p:DictK K w Z23 [(FF<|CI "f",.int<|1),(FF<|CI "b",.int<|-1),(FF<|CI "i",.int<|0)]):FnOk P w K mg base CX0 (1) f fd ["tablet","turn"] (bQ (qA K) isS (rs isI)<|Be):=by
 have SC:FnScope ["tablet","turn","step"] ["tablet","turn"] (defScope<|tp 21):=by walk_at "F"
 refine F.ok SC (fun vs H Q E h=>?_)<|fun cdv A outer s H vs Q E hr h=>?_;·obtain⟨_,_,_,_,_,_,rfl,_⟩:=h;rfl
 ·obtain⟨W0,tablet,turn,Z0j,_,rfl,rfl,Z02,Z2w,Er,hq⟩:=h;cases Z2w
  refine⟨_,(af (dn 2 (lg (K:=K) (w:=w) rfl rfl (bb (v:=.ref _) (by rfl) Z5o rfl) (pv 1)<|fun _ _=>rfl))
   (ag (ay (fU (aI cS (aH (aY (K:=K) rfl) (pv 0) ae (fun _ _=>rfl)) aD (aJ _)) (pv 2) (kZ ix (pv 2)))))),?_⟩
  have E0:Ext W0 W0:=.refl W0;unfold Be at hq;refine aq (Er:=Er) (rE Z5p (by decide +kernel) cR)<|(CA hq).imp fun y3 hq v4 W1 e2 h5=>?_;cases h5;have E0:=E0.trans e2;have Z02:=Cz e2.g Z02;exact aO (Er:=Er) (ng (aM (gO (bw (f:=fun(b:Cd)=>b.1) oI<|aX Z02) (aE (x:=CI "S") (l:=[83]) (du _ _ (by decide +kernel))))) bh<|jG bh)<|DF hq fun y6 hq v7 W8 e9 h10=>hq v7 W8 (E0.trans e9) h10
theorem Ci{f:Addr}{fd:De}(F:Fun K "state_behind" "state_behind" (tp 32) f fd){pf:Cd->Tx->Res Int}(Z1I:Cal P w K mg base "twisting" ["tablet","turn"] (1) (bQ (qA K) isS (rs isI) pf)):FnOk P w K mg base CX0 (2) f fd ["tablet","state","turn"] (eF (qA K) (qC K) isS (rs<|qC K)<|Bf pf):=by
 have SC:FnScope ["tablet","state","turn","twist","idle"] ["tablet","state","turn"] (defScope<|tp 32):=by walk_at "F"
 refine F.ok SC (fun vs H Q E h=>?_)<|fun cdv A outer s H vs Q E hr h=>?_;·obtain⟨_,_,_,_,_,_,_,_,rfl,_⟩:=h;rfl
 ·obtain⟨W0,tablet,state,turn,Z0j,Z2p,_,rfl,rfl,Z02,Z22,Z2w,Er,hq⟩:=h;cases Z2w;refine⟨_,(af (eV (pv 1)<|bM (K:=K) (n:=2) rfl rfl<|au (eU 3)<|au (eU 4) bI)
   (ag (ay (bc (a8 (ai bK (pv 3) (di Z1I (a8 (pv 0) (a8 (pv 2) aa)))) (a8 (fU (aI cS (pv 2) aD (aJ _)) (ai bK (pv 4) ae) ae) aa)))))),?_⟩
  have E0:Ext W0 W0:=.refl W0;unfold Bf at hq;refine dE (Er:=Er) (aX Z22)<|fun v1 W2 e3 h4=>?_;have E0:=E0.trans e3;have Z02:=Cz e3.g Z02;refine iH h4 fun v5 v7 h6 h8=>?_;cases h6;cases h8;exact aO (Er:=Er) (bz (K:=K) (ba bh<|bf (aX Z02) cR) (ng (aM (gO cR (aE (x:=CI "i") (l:=[105]) (du _ _ (by decide +kernel))))) (ba bh ah) ah))<|DF hq fun y12 hq v13 W14 e15 h16=>hq v13 W14 (E0.trans e15) h16
theorem Cj{f:Addr}{fd:De}(F:Fun K "twisted" "twisted" (tp 31) f fd){Z24:Tok}(Z1J:mg "HOLES"=some (.int 4 Z24)):FnOk P w K mg base CX0 (1) f fd ["tablet","twist"] (bQ (qA K) isI (rs<|qA K)<|Bg):=by
 have SC:FnScope ["tablet","twist","lay","holes","stand"] ["tablet","twist"] (defScope<|tp 31):=by walk_at "F"
 refine F.ok SC (fun vs H Q E h=>?_)<|fun cdv A outer s H vs Q E hr h=>?_;·obtain⟨_,_,_,_,_,_,rfl,_⟩:=h;rfl
 ·obtain⟨W0,tablet,twist,Z0j,_,rfl,rfl,Z02,Zaa,Er,hq⟩:=h;cases Zaa;refine⟨_,(af (eV (pv 0)<|bM (K:=K) (n:=3) rfl rfl<|au (eU 2)<|au (eU 3)<|au (eU 4) bI)
   (ag (ay (bc (a8 (pv 2) (a8 (pv 3) (a8 (ai aP (fU (aI cS (pv 2) aD (aJ _)) (ai bK (pv 4) (pv 1)) (ai fV (pv 4) (pv 1))) (bb (v:=.int 4) (by rfl) Z1J ⟨_,rfl⟩)) aa))))))),?_⟩
  have E0:Ext W0 W0:=.refl W0;unfold Bg at hq;refine dE (Er:=Er) (aX Z02)<|fun v1 W2 e3 h4=>?_;have E0:=E0.trans e3;refine rB h4 fun v5 v7 v9 h6 h8 h10=>?_;cases h6;cases h8;cases h10;exact aO (Er:=Er) (dz (K:=K) cR cR (aA (fun _=>by decide) (ng (aM (gO cR (aE (x:=CI "S") (l:=[83]) (du _ _ (by decide +kernel))))) (ba bh bh)<|ba bh bh)))<|DF hq fun y13 hq v14 W15 e16 h17=>hq v14 W15 (E0.trans e16) h17
theorem AG{f:Addr}{fd:De}(F:Fun K "top" "top" (tp 19) f fd){Z24:Tok}(Z1J:mg "HOLES"=some (.int 4 Z24)):FnOk P w K mg base CX0 (1) f fd ["tablet"] (dD (qA K) (rs isS)<|qI):=by
 have SC:FnScope ["tablet","lay","holes","stand"] ["tablet"] (defScope<|tp 19):=by walk_at "F"
 refine F.ok SC (fun vs H Q E h=>?_)<|fun cdv A outer s H vs Q E hr h=>?_;·obtain⟨_,_,_,_,rfl,_⟩:=h;rfl
 ·obtain⟨W0,tablet,Z0j,rfl,rfl,Z02,Er,hq⟩:=h;refine⟨_,(af (eV (pv 0)<|bM (K:=K) (n:=3) rfl rfl<|au (eU 1)<|au (eU 2)<|au (eU 3) bI)
   (ag (ay (aH cq (pv 2) (ai aP (pv 3) (bb (v:=.int 4) (by rfl) Z1J ⟨_,rfl⟩)) (fun _ _=>rfl))))),?_⟩
  have E0:Ext W0 W0:=.refl W0;unfold qI at hq;refine dE (Er:=Er) (aX Z02)<|fun v1 W2 e3 h4=>?_;have E0:=E0.trans e3;refine rB h4 fun v5 v7 v9 h6 h8 h10=>?_;cases h6;cases h8;cases h10;exact aO (Er:=Er) (cv cR (aA (fun _=>by decide) bh))<|DF hq fun y11 hq v12 W13 e14 h15=>hq v12 W13 (E0.trans e14) h15
theorem Ck{f:Addr}{fd:De}(F:Fun K "bottom" "bottom" (tp 20) f fd){Z24:Tok}(Z1J:mg "HOLES"=some (.int 4 Z24)):FnOk P w K mg base CX0 (1) f fd ["tablet"] (dD (qA K) (rs isS)<|Bh):=by
 have SC:FnScope ["tablet","lay","holes","stand"] ["tablet"] (defScope<|tp 20):=by walk_at "F"
 refine F.ok SC (fun vs H Q E h=>?_)<|fun cdv A outer s H vs Q E hr h=>?_;·obtain⟨_,_,_,_,rfl,_⟩:=h;rfl
 ·obtain⟨W0,tablet,Z0j,rfl,rfl,Z02,Er,hq⟩:=h;refine⟨_,(af (eV (pv 0)<|bM (K:=K) (n:=3) rfl rfl<|au (eU 1)<|au (eU 2)<|au (eU 3) bI)
   (ag (ay (aH cq (pv 2) (ai aP (ai bK (pv 3) ae) (bb (v:=.int 4) (by rfl) Z1J ⟨_,rfl⟩)) (fun _ _=>rfl))))),?_⟩
  have E0:Ext W0 W0:=.refl W0;unfold Bh at hq;refine dE (Er:=Er) (aX Z02)<|fun v1 W2 e3 h4=>?_;have E0:=E0.trans e3;refine rB h4 fun v5 v7 v9 h6 h8 h10=>?_;cases h6;cases h8;cases h10;exact aO (Er:=Er) (cv cR (aA (fun _=>by decide)<|ba bh ah))<|DF hq fun y11 hq v12 W13 e14 h15=>hq v12 W13 (E0.trans e14) h15
theorem Cm{f:Addr}{fd:De}(F:Fun K "left_place" "left_place" (tp 24) f fd){ij:Cd->Res Tx}{xi:Cd->Res Tx}{pf:Cd->Tx->Res Int}(C_top:Cal P w K mg base "top" ["tablet"] (1) (dD (qA K) (rs isS) ij))(Z4T:Cal P w K mg base "bottom" ["tablet"] (1) (dD (qA K) (rs isS) xi))(Z1I:Cal P w K mg base "twisting" ["tablet","turn"] (1) (bQ (qA K) isS (rs isI) pf)){Z1Q:Addr}(Z4U:mg "SLANTS"=some (.ref Z1Q))(Z4V:DictK K w Z1Q [(FE<|1,.str<|CI "s"),(FE<|-1,.str<|CI "z"),(FE<|0,.str<|CI "o")]):FnOk P w K mg base CX0 (2) f fd ["tablet","turn"] (bQ (qA K) isS (rs<|qB K)<|Bi ij xi pf):=by
 have SC:FnScope ["tablet","turn"] ["tablet","turn"] (defScope<|tp 24):=by walk_at "F"
 refine F.ok SC (fun vs H Q E h=>?_)<|fun cdv A outer s H vs Q E hr h=>?_;·obtain⟨_,_,_,_,_,_,rfl,_⟩:=h;rfl
 ·obtain⟨W0,tablet,turn,Z0j,_,rfl,rfl,Z02,Z2w,Er,hq⟩:=h;cases Z2w;refine⟨_,(ag (ay (bc (a8 (di C_top<|a8 (pv 0) aa) (a8 (di Z4T<|a8 (pv 0) aa) (a8 (lg (K:=K) (w:=w) rfl rfl (bb (v:=.ref _) (by rfl) Z4U rfl) (di Z1I<|a8 (pv 0)<|a8 (pv 1) aa)<|fun _ _=>rfl) aa)))))),?_⟩;have E0:Ext W0 W0:=.refl W0;unfold Bi at hq;exact aO (Er:=Er) (dz (K:=K) (cP<|aX Z02) (cP<|aX Z02) (rF Z4V (by decide +kernel)<|bf (aX Z02) cR))<|DF hq fun y5 hq v6 W7 e8 h9=>hq v6 W7 (E0.trans e8) h9
theorem Cn{f:Addr}{fd:De}(F:Fun K "suits" "suits" (tp 28) f fd){Z6i:Tok}(Z6j:mg "WORN"=some (.str (CI "?") Z6i)):FnOk P w K mg base CX0 (1) f fd ["sign","left"] (bQ isS isS (rs isB)<|Bj):=by
 have SC:FnScope ["sign","left"] ["sign","left"] (defScope<|tp 28):=by walk_at "F"
 refine F.ok SC (fun vs H Q E h=>?_)<|fun cdv A outer s H vs Q E hr h=>?_;·obtain⟨_,_,_,_,_,_,rfl,_⟩:=h;rfl
 ·obtain⟨W0,sign,left,_,_,rfl,rfl,Zaj,Zak,Er,hq⟩:=h;cases Zaj;cases Zak;refine⟨_,(ag (ay (zT (dg cS (pv 1) (bb (v:=.str<|CI "?") (by rfl) Z6j ⟨_,rfl⟩)<|aJ _)<|jk<|dg cS (pv 1) (pv 0)<|aJ _))),?_⟩;have E0:Ext W0 W0:=.refl W0;unfold Bj at hq;exact aO (Er:=Er) (Ad (gO cR (aE (x:=CI "?") (l:=[63]) (du _ _ (by decide +kernel))))<|gO cR cR)<|DF hq fun y1 hq v2 W3 e4 h5=>hq v2 W3 (E0.trans e4) h5
theorem Co{f:Addr}{fd:De}(F:Fun K "agrees" "agrees" (tp 27) f fd){vU:Tx->Tx->Res Bool}(Z5r:Cal P w K mg base "suits" ["sign","left"] (1) (bQ isS isS (rs isB) vU))(h_all:mg "all"=none)(h_zip:mg "zip"=none):FnOk P w K mg base CX0 (2) f fd ["place","mark"] (bQ (qB K) (qB K) (rs isB)<|Bk vU):=by
 have SC:FnScope ["place","mark"] ["place","mark"] (defScope<|tp 27):=by walk_at "F"
 refine F.ok SC (fun vs H Q E h=>?_)<|fun cdv A outer s H vs Q E hr h=>?_;·obtain⟨_,_,_,_,_,_,rfl,_⟩:=h;rfl
 ·obtain⟨W0,place,mark,Z84,Z1a,rfl,rfl,Zac,Z1W,Er,hq⟩:=h;refine⟨_,(ag (ay (ar (rD (K:=K) rfl rfl) (by rfl) h_all Ml (a8 (fw (N:=["sign","left"]) (cap:=[none,none]) (gY rfl (by decide +kernel) rfl (by decide +kernel) (by rfl) (by rfl)) rfl (gZ (K:=K) rfl rfl h_zip<|a8 (pv 0)<|a8 (pv 1) aa) (fun _ _ _ _=>(bM (K:=K) (n:=2) rfl rfl (au (bo (i:=0) (show Ee (["sign","left"]:List Str) by decide +kernel) rfl (by walk_at "L")) (au (bo (i:=1) (show Ee (["sign","left"]:List Str) by decide +kernel) rfl (by walk_at "L")) bI)))) (fun _ _ _ _=>cZ)<|fun _ _ _ _=>(di Z5r<|a8 (pv 0)<|a8 (pv 1) aa)) aa)))),?_⟩;have E0:Ext W0 W0:=.refl W0;rw[show L2.start ["place","mark"] [Z84,Z1a]=[some Z84,some Z1a]from rfl];unfold Bk at hq;exact aO (Er:=Er) (yI (Gh (fD (f:=fun(a1:Tx×Tx)=>vU a1.1 a1.2) (m9 (j9<|aX Zac)<|j9<|aX Z1W) fun W3 a1 v2 e4 h5 Q10 k11=>by
   refine iH h5 fun v6 v8 h7 h9=>?_;cases h7;cases h9;exact⟨by simp[Keep,aZ],((bf cR cR):EV Er _ [some (.str (sOf a1.1)),some (.str (sOf a1.2))] _ _ _) _ (.refl _) _ k11⟩))) (DF hq fun y13 hq v14 W15 e16 h17=>hq v14 W15 (E0.trans e16) h17)
theorem Cp{f:Addr}{fd:De}(F:Fun K "leaves" "leaves" (tp 34) f fd){xl:Pl->Pl->Res Bool}{xj:Cd->Tx->Res Pl}{xh:Cd->Int->Res Cd}(Z4W:Cal P w K mg base "agrees" ["place","mark"] (2) (bQ (qB K) (qB K) (rs isB) xl))(Z2x:Cal P w K mg base "left_place" ["tablet","turn"] (2) (bQ (qA K) isS (rs<|qB K) xj))(Z4k:Cal P w K mg base "twisted" ["tablet","twist"] (1) (bQ (qA K) isI (rs<|qA K) xh)):FnOk P w K mg base CX0 (3) f fd ["tablet","state","turn","mark"] (gQ (qA K) (qC K) isS (qB K) (rs isB)<|Bl xl xj xh):=by
 have SC:FnScope ["tablet","state","turn","mark"] ["tablet","state","turn","mark"] (defScope<|tp 34):=by walk_at "F"
 refine F.ok SC (fun vs H Q E h=>?_)<|fun cdv A outer s H vs Q E hr h=>?_;·obtain⟨_,_,_,_,_,_,_,_,_,_,rfl,_⟩:=h;rfl
 ·obtain⟨W0,tablet,state,turn,mark,Z0j,Z2p,_,Z1a,rfl,rfl,Z02,Z22,Z2w,Z1W,Er,hq⟩:=h;cases Z2w;refine⟨_,(ag<|ay<|di Z4W<|a8 (di Z2x<|a8 (di Z4k<|a8 (pv 0)<|a8 (aH (aY (K:=K) rfl) (pv 1) ae<|fun _ _=>rfl) aa)<|a8 (pv 2) aa)<|a8 (pv 3) aa),?_⟩;have E0:Ext W0 W0:=.refl W0;unfold Bl at hq;exact aO (Er:=Er) (bf (bf (bf (aX Z02)<|bw (f:=fun(b:Ii)=>b.1) Ag<|aX Z22) cR)<|aX Z1W)<|DF hq fun y3 hq v4 W5 e6 h7=>hq v4 W5 (E0.trans e6) h7
theorem Cq{f:Addr}{fd:De}(F:Fun K "onward" "onward" (tp 35) f fd){vT:Cd->Ii->Tx->Res Ii}{nP:Ii->Int->Int->Res Bool}{vh:Cd->Ii->Tx->Pl->Res Bool}(Z25:Cal P w K mg base "state_behind" ["tablet","state","turn"] (2) (eF (qA K) (qC K) isS (rs<|qC K) vT))(Z26:Cal P w K mg base "within" ["state","loose","bound"] (1) (eF (qC K) isI isI (rs isB) nP))(Z4X:Cal P w K mg base "leaves" ["tablet","state","turn","mark"] (3) (gQ (qA K) (qC K) isS (qB K) (rs isB) vh)){Z5s:Tok}(Z5t:mg "TURNS"=some (.str (CI "fbi") Z5s)):FnOk P w K mg base CX0 (4) f fd ["tablet","mark","loose","bound","state"] (gB (qA K) (qB K) isI isI (qC K) (ro<|isT2 K isS<|qC K)<|Bm vT nP vh):=by
 have SC:FnScope ["tablet","mark","loose","bound","state","moves"] ["tablet","mark","loose","bound","state"] (defScope<|tp 35):=by walk_at "F"
 refine F.ok SC (fun vs H Q E h=>?_)<|fun cdv A outer s H vs Q E hr h=>?_;·obtain⟨_,_,_,_,_,_,_,_,_,_,_,_,rfl,_⟩:=h;rfl
 ·obtain⟨W0,tablet,mark,loose,bound,state,Z0j,Z1a,_,_,Z2p,rfl,rfl,Z02,Z1W,Z0T,Z0U,Z22,Er,hq⟩:=h;cases Z0T;cases Z0U
  refine⟨_,(af (jy (i:=5) SC.nd rfl (by walk_at "L") (N:=["turn","tablet","state"]) (cap:=[none,some 0,some 4]) (gY rfl (by decide +kernel) rfl (by decide +kernel) (by rfl) (by rfl)) rfl (jw (bb (v:=.str<|CI "fbi") (by rfl) Z5t ⟨_,rfl⟩)) (fun _ _ _ _=>(bo (i:=0) (show Ee (["turn","tablet","state"]:List Str) by decide +kernel) rfl (by walk_at "L"))) (fun _ _ _ _=>cZ)<|fun _ _ _ _=>(bc<|a8 (pv 0)<|a8 (di Z25<|a8 (pv 1)<|a8 (pv 2)<|a8 (pv 0) aa) aa))
   (ag (ay (fw (N:=["turn","after","loose","bound","tablet","mark"]) (cap:=[none,none,some 2,some 3,some 0,some 1]) (gY rfl (by decide +kernel) rfl (by decide +kernel) (by rfl) (by rfl)) rfl (bV (K:=K) rfl (pv 5)) (fun _ _ _ _=>(bM (K:=K) (n:=2) rfl rfl (au (bo (i:=0) (show Ee (["turn","after","loose","bound","tablet","mark"]:List Str) by decide +kernel) rfl (by walk_at "L")) (au (bo (i:=1) (show Ee (["turn","after","loose","bound","tablet","mark"]:List Str) by decide +kernel) rfl (by walk_at "L")) bI)))) (fun _ _ _ _=>(lU (Jz (fj (cK (di Z26 (a8 (pv 1) (a8 (pv 2) (a8 (pv 3) aa))))) (eN (cK (di Z4X (a8 (pv 4) (a8 (pv 1) (a8 (pv 0) (a8 (pv 5) aa))))))))))) (fun _ _ _ _=>(bc (a8 (pv 0) (a8 (pv 1) aa)))))))),?_⟩
  have E0:Ext W0 W0:=.refl W0;rw[show L2.start ["tablet","mark","loose","bound","state","moves"] [Z0j,Z1a,.int loose,.int bound,Z2p]=[some Z0j,some Z1a,some<|.int loose,some<|.int bound,some Z2p,none]from rfl];unfold Bm at hq;refine aq (Er:=Er) (Ey (fD (f:=fun(a3:Tx)=>(vT tablet state a3).bind fun y12=>CK (a3,y12)) (jI (aE (x:=CI "fbi") (l:=[102,98,105]) (du _ _ (by decide +kernel)))) fun W5 a3 v4 e6 h7 Q13 k14=>by
   have h8:=Dv (R:=sh (qA K)) e6 Z02;have h9:=Dv (R:=sh (qC K)) e6 Z22;cases h7;refine gn ?_;exact⟨by simp[Keep,aZ],((bz (K:=K) cR (gb (aX h8) (aX h9) cR)):EV Er _ [some (.str (sOf a3)),some Z0j,some Z2p] _ _ _) _ (.refl _) _ k14⟩)) ((CA hq).imp fun y15 hq v16 W1 e2 h17=>?_)
  have E0:=E0.trans e2;have Z02:=Cz e2.g Z02;have Z1W:=Cz e2.g Z1W;exact i4 (Er:=Er) (jJ (f:=fun(a18:Tx×Ii)=>((nP a18.2 loose bound).bind fun y31=>if y31 then vh tablet a18.2 a18.1 mark else CK false).bind fun y33=>if y33 then CK (some (a18.1,a18.2))else CK none) (cJ<|aX h17) fun W20 a18 v19 e21 h22 Q29 k30=>by
   have h23:=Dv (R:=sh<|qA K) e21 Z02;have h24:=Dv (R:=sh<|qB K) e21 Z1W;refine iH h22 fun v25 v27 h26 h28=>?_;cases h26;refine⟨by simp[Keep,aZ],((gP (kP<|gb (aX h28) bh bh)<|kP<|ni (aX h23) (aX h28) cR<|aX h24):TV Er _ [some (.str<|sOf a18.1),some v27,some<|.int loose,some<|.int bound,some Z0j,some Z1a] _ _) _ (.refl _) _ (DF (P:=fun b32=>(if b32=true then CK (some (a18.1,a18.2))else CK none:Res (Option<|Tx×Ii)).OkE Er _) (CA k30) fun b32 k36 W34 e35=>?_)⟩;cases b32 with
   |false=>exact k36 none _ e35 trivial
   |true=>
    rw[if_pos rfl];refine EV.go (Er:=Er) (σ:=[some (.str (sOf a18.1)),some v27,some (.int loose),some (.int bound),some Z0j,some Z1a]) (W1:=W34) e35 (bz (K:=K) cR (aX h28)) ?_;exact fun u39 W37 e38 h40=>k36 (some u39) _ (e35.trans e38) h40) (DF hq fun y42 hq p43 W44 e45 hp46 o47=>hq p43 W44 (E0.trans e45) (bg E0.h hp46) o47)
theorem Cr{f:Addr}{fd:De}(F:Fun K "states_behind" "states_behind" (tp 37) f fd){gA:Cd->Pl->Int->Int->Ii->Res (List<|Tx×Ii)}(Z1m:Cal P w K mg base "onward" ["tablet","mark","loose","bound","state"] (4) (gB (qA K) (qB K) isI isI (qC K) (ro<|isT2 K isS<|qC K) gA))(h_sorted:mg "sorted"=none):FnOk P w K mg base CX0 (5) f fd ["tablet","mark","loose","bound","states"] (gB (qA K) (qB K) isI isI (qE K) (ro<|qC K)<|Bn gA):=by
 have SC:FnScope ["tablet","mark","loose","bound","states"] ["tablet","mark","loose","bound","states"] (defScope<|tp 37):=by walk_at "F"
 refine F.ok SC (fun vs H Q E h=>?_)<|fun cdv A outer s H vs Q E hr h=>?_;·obtain⟨_,_,_,_,_,_,_,_,_,_,_,_,rfl,_⟩:=h;rfl
 ·obtain⟨W0,tablet,mark,loose,bound,states,Z0j,Z1a,_,_,Z6k,rfl,rfl,Z02,Z1W,Z0T,Z0U,Z9W,Er,hq⟩:=h;cases Z0T;cases Z0U;refine⟨_,(ag (ay (ar (mw rfl) (by rfl) h_sorted Im (a8 (sd (eX hr) (N:=["state","turn","after","tablet","mark","loose","bound"]) (cap:=[none,none,none,some 0,some 1,some 2,some 3]) (gY rfl (by decide +kernel) rfl (by decide +kernel) (by rfl) (by rfl)) rfl (bV (K:=K) rfl<|pv 4) (fun _ _ _ _=>(bo (i:=0) (show Ee (["state","turn","after","tablet","mark","loose","bound"]:List Str) by decide +kernel) rfl (by walk_at "L"))) (fun _ _ _ _=>cZ) (fun _ _ _ _=>(bV (K:=K) rfl<|di Z1m<|a8 (pv 3)<|a8 (pv 4)<|a8 (pv 5)<|a8 (pv 6)<|a8 (pv 0) aa)) (fun _ _ _ _=>(bM (K:=K) (n:=2) rfl rfl (au (bo (i:=1) (show Ee (["state","turn","after","tablet","mark","loose","bound"]:List Str) by decide +kernel) rfl (by walk_at "L")) (au (bo (i:=2) (show Ee (["state","turn","after","tablet","mark","loose","bound"]:List Str) by decide +kernel) rfl (by walk_at "L")) bI)))) (fun _ _ _ _=>cZ)<|fun _ _ _ _=>(pv 2)) aa)))),?_⟩;have E0:Ext W0 W0:=.refl W0;rw[show L2.start ["tablet","mark","loose","bound","states"] [Z0j,Z1a,.int loose,.int bound,Z6k]=[some Z0j,some Z1a,some<|.int loose,some<|.int bound,some Z6k]from rfl];unfold Bn at hq;exact i4 (Er:=Er) (uV (cJ<|aX Z9W) (fun W1 D2 W5 a6 v7 s8 M9 hS10 e3 h4 e11 o12 h13 k14=>by
   have h15:=Cz hS10 Z02;have h16:=Cz hS10 Z1W;refine gn ?_;exact⟨by simp[Keep,aZ],uw (((yZ e11 (cJ<|Ey<|gw (aX h15) (aX h16) bh bh<|aX h13) (fun _ _ _ e o=>o.mono e) (fun W19 a20 v21 s22 M23 hS24 e25 o26 h27 k28=>by
    have h29:=Cz hS24 h15;have h30:=Cz hS24 h16;have h31:=Cz hS24 h13;refine iH h27 fun v32 v34 h33 h35=>?_;cases h33;exact⟨by simp[Keep,aZ],uw (((zc e25 h4 (aX h35)):BV Er _ [some v7,some (.str (sOf a20.1)),some v34,some Z0j,some Z1a,some (.int loose),some (.int bound)] _ _ _ _ _) _ _ _ (.refl _) o26 k28)⟩)):BV Er _ [some v7,none,none,some Z0j,some Z1a,some (.int loose),some (.int bound)] _ _ _ _ _) _ _ _ (.refl _) o12 k14)⟩)) (DF hq fun y38 hq p39 W40 e41 hp42 o43=>hq p39 W40 (E0.trans e41) (bg E0.h hp42) o43)
theorem Cs{f:Addr}{fd:De}(F:Fun K "search" "search" (tp 36) f fd){nP:Ii->Int->Int->Res Bool}{ph:Cd->Pl->Int->Int->(List Ii)->Res (List Ii)}(Z26:Cal P w K mg base "within" ["state","loose","bound"] (1) (eF (qC K) isI isI (rs isB) nP))(Z1X:Cal P w K mg base "states_behind" ["tablet","mark","loose","bound","states"] (5) (gB (qA K) (qB K) isI isI (qE K) (ro<|qC K) ph)){Z11:Addr}(Z1b:mg "START"=some (.ref Z11))(Z1c:∀H,SqT K H Z11 [.int (0),.int<|0]):FnOk P w K mg base CX0 (6) f fd ["tablet","strip","loose","bound"] (gQ (qA K) (qD K) isI isI (ro<|qE K)<|Bo nP ph):=by
 have SC:FnScope ["tablet","strip","loose","bound","lists","mark"] ["tablet","strip","loose","bound"] (defScope<|tp 36):=by walk_at "F"
 refine F.ok SC (fun vs H Q E h=>?_)<|fun cdv A outer s H vs Q E hr h=>?_;·obtain⟨_,_,_,_,_,_,_,_,_,_,rfl,_⟩:=h;rfl
 ·obtain⟨W0,tablet,strip,loose,bound,Z0j,Z1d,_,_,rfl,rfl,Z02,Z0f,Z0T,Z0U,Er,hq⟩:=h;cases Z0T;cases Z0U
  refine⟨_,(af (dn 4 (bE (a8 (fU (cK (di Z26 (a8 (bb (v:=.ref _) (by rfl) Z1b rfl)<|a8 (pv 2)<|a8 (pv 3) aa))) (bE (a8 (bb (v:=.ref _) (by rfl) Z1b rfl) aa))<|bE aa) aa)))
   (af (cE DG rfl (bV (K:=K) rfl<|pv 1) (eU 5) (af (bO (aI (zd hr.units0) (aH (bD (K:=K) rfl) (pv 4) (kZ ix ae)<|fun _ _=>rfl) (bE aa)<|aJ _) (ag<|ay<|pv 4) aS)
   (ag (fo (d6 (K:=K) rfl (pv 4) (a8 (di Z1X (a8 (pv 0) (a8 (pv 5) (a8 (pv 2) (a8 (pv 3) (a8 (aH (bD (K:=K) rfl) (pv 4) (kZ ix ae) (fun _ _=>rfl)) aa)))))) aa))))))
   (ag (ay (pv 4))))),?_⟩
  have E0:Ext W0 W0:=.refl W0;unfold Bo at hq;refine dv (Er:=Er) (bX<|az (ng (kP<|gb (gc Z1c (gI _)<|gI _) bh bh) (Ey<|bX<|az (gc Z1c (gI _)<|gI _)<|bW (R:=(qC K)))<|Ey<|gu (R:=(qC K)))<|bW (R:=(qE K)))<|(CA hq).imp fun y5 hq p6 W1 e2 hp7 o8=>?_;have fr9:=bg E0.h hp7;have E0:=E0.trans e2;have Z02:=Cz e2.g Z02;have Z0f:=Cz e2.g Z0f;refine fe (Er:=Er) (f:=(ya ph tablet loose bound)) (s0:=y5) (Iv:=fun(s12:(List<|List Ii))(W13:Wd)(g14:St)=>∃(d16:Option V),g14=[some Z0j,some Z1d,some<|.int loose,some<|.int bound,some<|.ref p6,d16]/\Ext W0 W13/\Ow (qE K) W13 p6 s12) (cJ<|aX Z0f) (CA hq) ?_ ?_ ?_
  ·intro W28 e29;have E0:=E0.trans e29;have Z02:=Cz e29.g Z02;have o8:=o8.mono e29;exact⟨_,rfl,E0,o8⟩
  ·intro Wb17 W18 W19 a10 v20 s11 sg21 P22 hW23 hB24 iv e25 h26 hrt27 hq;obtain⟨d16,rfl,E0,o15⟩:=iv;have Z02:=Cz hW23 Z02;have E0:=E0.trans e25;have hB24:=hB24.trans e25.g;have Z02:=Cz e25.g Z02;have o15:=o15.mono e25;refine gn (σ':=[some Z0j,some Z1d,some<|.int loose,some<|.int bound,some<|.ref p6,some v20]) ?_;unfold ya at hq;refine dW (Er:=Er) (aM<|ze<|FC<|cO (eP o15)<|jG ah)<|(CA hq).imp fun y33 hq W34 e35=>?_;have E0:=E0.trans e35;have hB24:=hB24.trans e35.g;have Z02:=Cz e35.g Z02;have o15:=o15.mono e35;have h26:=Cz e35.g h26;by_cases hb41:y33=true
   ·rw[if_pos hb41]at hq ⊢;exact⟨.ref p6,rfl,(hrt27 _ hq) p6 W34 E0 fr9 o15⟩
   ·rw[if_neg hb41]at hq ⊢
    try dsimp only[aL]
    refine gR (Er:=Er) o15 (Ey<|gw (aX Z02) (aX h26) bh bh<|cO (eP o15)<|jG ah)<|(CA hq).imp fun y40 hq W37 mu38 o39=>?_;have E0:=mu38.e _ E0 fr9;have hB24:=hB24.trans mu38.g;have Z02:=Cz mu38.g Z02;have h26:=Cz mu38.g h26
    try dsimp only
    refine cw (W:=W37) y40 hB24 ?_ hq;exact⟨_,rfl,E0,o39⟩
  ·intro s42 W43 sg44 hS45 iv hq;obtain⟨d16,rfl,E0,o15⟩:=iv;exact⟨.ref p6,rfl,hq p6 W43 E0 fr9 o15⟩
theorem Ct{f:Addr}{fd:De}(F:Fun K "tails" "tails" (tp 38) f fd){xm:Cd->(List Pl)->Int->Int->Res (List<|List Ii)}{gA:Cd->Pl->Int->Int->Ii->Res (List<|Tx×Ii)}(Z4Y:Cal P w K mg base "search" ["tablet","strip","loose","bound"] (6) (gQ (qA K) (qD K) isI isI (ro<|qE K) xm))(Z1m:Cal P w K mg base "onward" ["tablet","mark","loose","bound","state"] (4) (gB (qA K) (qB K) isI isI (qC K) (ro<|isT2 K isS<|qC K) gA))(h_len:mg "len"=none)(h_range:mg "range"=none)(h_reversed:mg "reversed"=none)(h_sum:mg "sum"=none):FnOk P w K mg base CX0 (7) f fd ["tablet","strip","loose","bound"] (gQ (qA K) (qD K) isI isI (ro<|isPD P w K isI)<|Bp xm gA):=by
 have SC:FnScope ["tablet","strip","loose","bound","lists","counts","at","ahead","moves"] ["tablet","strip","loose","bound"] (defScope<|tp 38):=by walk_at "F"
 refine F.ok SC (fun vs H Q E h=>?_)<|fun cdv A outer s H vs Q E hr h=>?_;·obtain⟨_,_,_,_,_,_,_,_,_,_,rfl,_⟩:=h;rfl
 ·obtain⟨W0,tablet,strip,loose,bound,Z0j,Z1d,_,_,rfl,rfl,Z02,Z0f,Z0T,Z0U,Er,hq⟩:=h;cases Z0T;cases Z0U;refine⟨_,(af (dn 4<|di Z4Y<|a8 (pv 0)<|a8 (pv 1)<|a8 (pv 2)<|a8 (pv 3) aa)
   (af (dn 5 (bE (a8 (iK (eX hr) (N:=["state"]) (cap:=[none]) (gY rfl (by decide +kernel) rfl (by decide +kernel) (by rfl) (by rfl)) rfl (bV (K:=K) rfl<|aH (bD (K:=K) rfl) (pv 4) (kZ ix ae)<|fun _ _=>rfl) (fun _ _ _ _=>(bo (i:=0) (show Ee (["state"]:List Str) by decide +kernel) rfl (by walk_at "L"))) (fun _ _ _ _=>cZ) (fun _ _ _ _=>(pv 0))<|fun _ _ _ _=>ae) aa)))
   (af (cE DG rfl (sm rfl h_reversed rfl h_range (a8 (ai fV (ar (bJ (K:=K) rfl) (by rfl) h_len Ef<|a8 (pv 4) aa) ae) aa)) (eU 6) (af (dn 7<|aH (bD (K:=K) rfl) (pv 5) (kZ ix ae)<|fun _ _=>rfl)
   (af (dn 8 (iK (eX hr) (N:=["state","tablet","strip","at","loose","bound"]) (cap:=[none,some 0,some 1,some 6,some 2,some 3]) (gY rfl (by decide +kernel) rfl (by decide +kernel) (by rfl) (by rfl)) rfl (bV (K:=K) rfl<|aH (bD (K:=K) rfl) (pv 4) (pv 6)<|fun _ _=>rfl) (fun _ _ _ _=>(bo (i:=0) (show Ee (["state","tablet","strip","at","loose","bound"]:List Str) by decide +kernel) rfl (by walk_at "L"))) (fun _ _ _ _=>cZ) (fun _ _ _ _=>(pv 0))<|fun _ _ _ _=>(di Z1m<|a8 (pv 1)<|a8 (aH (bD (K:=K) rfl) (pv 2) (pv 3)<|fun _ _=>rfl)<|a8 (pv 4)<|a8 (pv 5)<|a8 (pv 0) aa)))
   (ag (fo (d6 (K:=K) rfl (pv 5) (a8 (iK (eX hr) (N:=["state","moves","ahead"]) (cap:=[none,some 8,some 7]) (gY rfl (by decide +kernel) rfl (by decide +kernel) (by rfl) (by rfl)) rfl (sk (P:=P) (w:=w) (K:=K) rfl rfl rfl (pv 8)) (fun _ _ _ _=>(bo (i:=0) (show Ee (["state","moves","ahead"]:List Str) by decide +kernel) rfl (by walk_at "L"))) (fun _ _ _ _=>cZ) (fun _ _ _ _=>(pv 0)) (fun _ _ _ _=>(ar (rj (K:=K) rfl rfl) (by rfl) h_sum Mm (a8 (fw (N:=["turn","after","ahead"]) (cap:=[none,none,some 2]) (gY rfl (by decide +kernel) rfl (by decide +kernel) (by rfl) (by rfl)) rfl (bV (K:=K) rfl (ig (P:=P) (w:=w) (K:=K) rfl rfl rfl (eX hr) (pv 1) (pv 0) (fun _ _=>rfl))) (fun _ _ _ _=>(bM (K:=K) (n:=2) rfl rfl (au (bo (i:=0) (show Ee (["turn","after","ahead"]:List Str) by decide +kernel) rfl (by walk_at "L")) (au (bo (i:=1) (show Ee (["turn","after","ahead"]:List Str) by decide +kernel) rfl (by walk_at "L")) bI)))) (fun _ _ _ _=>cZ) (fun _ _ _ _=>(ig (P:=P) (w:=w) (K:=K) rfl rfl rfl (eX hr) (pv 2) (pv 1) (fun _ _=>rfl)))) aa)))) aa)))))))
   (ag (ay (n5 (K:=K) rfl (fun a b=>[.ref a,.ref b]) (fun _ _=>rfl) (pv 5) (j8 (kZ ix ae)))))))),?_⟩
  have E0:Ext W0 W0:=.refl W0;rw[show L2.start ["tablet","strip","loose","bound","lists","counts","at","ahead","moves"] [Z0j,Z1d,.int loose,.int bound]=[some Z0j,some Z1d,some<|.int loose,some<|.int bound,none,none,none,none,none]from rfl];unfold Bp at hq;refine aq (Er:=Er) (Ey<|iF (aX Z02) (aX Z0f) bh bh)<|(CA hq).imp fun y3 hq v4 W1 e2 h5=>?_;have E0:=E0.trans e2;have Z02:=Cz e2.g Z02;have Z0f:=Cz e2.g Z0f;refine dv (Er:=Er) (bX (az (Nc (kq (R:=isI) (cJ<|cO (FC<|aX h5)<|jG ah) (fun W8 D9 W12 a13 v14 s15 M16 hS17 e10 h11 e18 o19 h20 k21=>by
   refine gn ?_;exact⟨by simp[Keep,aZ],uw (((kg e18 h11 (aX h20) ah):BV Er _ [some v14] _ _ _ _ _) _ _ _ (.refl _) o19 k21)⟩))) (bW (R:=(isPD P w K isI))))) ((CA hq).imp fun y26 hq p27 W6 e7 hp28 o29=>?_)
  have fr30:=bg E0.h hp28;have E0:=E0.trans e7;have Z02:=Cz e7.g Z02;have Z0f:=Cz e7.g Z0f;have h5:=Cz e7.g h5;refine dh (Er:=Er) (f:=(zP gA tablet strip loose bound y3)) (s0:=y26) (Iv:=fun(s33:(List<|List<|Ii×Int))(W34:Wd)(g35:St)=>∃(d37:Option V)(d38:Option V)(d39:Option V),g35=[some Z0j,some Z1d,some<|.int loose,some<|.int bound,some v4,some<|.ref p27,d39,d37,d38]/\Ext W0 W34/\Ow (isPD P w K isI) W34 p27 s33) (so<|ba (dU<|FC<|aX h5) ah) (CA hq) ?_ ?_ ?_
  ·intro W51 e52;have E0:=E0.trans e52;have Z02:=Cz e52.g Z02;have Z0f:=Cz e52.g Z0f;have h5:=Cz e52.g h5;have o29:=o29.mono e52;exact⟨_,_,_,rfl,E0,o29⟩
  ·intro Wb40 W41 W42 a31 v43 s32 sg44 P45 hW46 hB47 iv e48 h49 hq;obtain⟨d37,d38,d39,rfl,E0,o36⟩:=iv;have Z02:=Cz hW46 Z02;have Z0f:=Cz hW46 Z0f;have h5:=Cz hW46 h5;have E0:=E0.trans e48;have hB47:=hB47.trans e48.g;have Z02:=Cz e48.g Z02;have Z0f:=Cz e48.g Z0f;have h5:=Cz e48.g h5;have o36:=o36.mono e48;cases h49;refine gn (σ':=[some Z0j,some Z1d,some<|.int loose,some<|.int bound,some v4,some<|.ref p27,some<|.int a31,d37,d38]) ?_;unfold zP at hq;refine aq (Er:=Er) (cO (eP o36)<|jG ah)<|(CA hq).imp fun y57 hq v58 W55 e56 h59=>?_;have E0:=E0.trans e56;have hB47:=hB47.trans e56.g;have Z02:=Cz e56.g Z02;have Z0f:=Cz e56.g Z0f;have h5:=Cz e56.g h5;have o36:=o36.mono e56;refine aq (Er:=Er) (Nc (kq (R:=(isL<|isT2 K isS<|qC K)) (f:=fun(a67:Ii)(s69:List (Ii×(List<|Tx×Ii)))=>((fA strip a31).bind fun y80=>gA tablet y80 loose bound a67).bind fun y81=>jZ s69 a67 y81) (cJ<|cO (FC<|aX h5) bh) (fun W62 D63 W66 a67 v68 s69 M70 hS71 e64 h65 e72 o73 h74 k75=>by
    have h76:=Cz hS71 Z02;have h77:=Cz hS71 Z0f;refine gn ?_;exact⟨by simp[Keep,aZ],uw (((kg e72 h65 (aX h74) (Ey (gw (aX h76) (cO (FC (aX h77)) bh) bh bh (aX h74)))):BV Er _ [some v68,some Z0j,some Z1d,some (.int a31),some (.int loose),some (.int bound)] _ _ _ _ _) _ _ _ (.refl _) o73 k75)⟩))) ((CA hq).imp fun y83 hq v84 W60 e61 h85=>?_)
   have E0:=E0.trans e61;have hB47:=hB47.trans e61.g;have Z02:=Cz e61.g Z02;have Z0f:=Cz e61.g Z0f;have h5:=Cz e61.g h5;have o36:=o36.mono e61;have h59:=Cz e61.g h59;refine gR (Er:=Er) o36 (Nc (kq (R:=isI) (vf<|aX h85) (fun W86 D87 W90 a91 v92 s93 M94 hS95 e88 h89 e96 o97 h98 k99=>by
    have h100:=Cz hS95 h85;have h101:=Cz hS95 h59;refine gn ?_;exact⟨by simp[Keep,aZ],uw (((kg e96 h89 (aX h98) (yH (Gh (fD (cJ<|jg (aX h100)<|aX h98) fun W106 a104 v105 e107 h108 Q114 k115=>by
     have h109:=Dv (R:=sh (isPD P w K isI)) e107 h101;refine iH h108 fun v110 v112 h111 h113=>?_;cases h111;exact⟨by simp[Keep,aZ],((jg (aX h109) (aX h113)):EV Er _ [some (.str (sOf a104.1)),some v112,some v58] _ _ _) _ (.refl _) _ k115⟩)))):BV Er _ [some v92,some v84,some v58] _ _ _ _ _) _ _ _ (.refl _) o97 k99)⟩))) ((CA hq).imp fun y122 hq W119 mu120 o121=>?_)
   have E0:=mu120.e _ E0 fr30;have hB47:=hB47.trans mu120.g;have Z02:=Cz mu120.g Z02;have Z0f:=Cz mu120.g Z0f;have h5:=Cz mu120.g h5;have h59:=Cz mu120.g h59;have h85:=Cz mu120.g h85
   try dsimp only
   refine cw (W:=W119) y122 hB47 ?_ hq;exact⟨_,_,_,rfl,E0,o121⟩
  ·intro s125 W126 sg127 hS128 iv hq;obtain⟨d37,d38,d39,rfl,E0,o36⟩:=iv;exact i4 (Er:=Er) (wC<|eP o36)<|fun p129 W130 e131 hp132 o133=>hq p129 W130 (E0.trans e131) (bg E0.h hp132) o133
theorem Cu{f:Addr}{fd:De}(F:Fun K "ways" "ways" (tp 39) f fd){pj:Cd->(List Pl)->Int->Int->Res (List<|List<|Ii×Int)}(Z2q:Cal P w K mg base "tails" ["tablet","strip","loose","bound"] (7) (gQ (qA K) (qD K) isI isI (ro<|isPD P w K isI) pj)){Z11:Addr}(Z1b:mg "START"=some (.ref Z11))(Z1c:∀H,SqT K H Z11 [.int (0),.int<|0]):FnOk P w K mg base CX0 (8) f fd ["tablet","strip","loose","bound"] (gQ (qA K) (qD K) isI isI (rs isI)<|Bq pj):=by
 have SC:FnScope ["tablet","strip","loose","bound"] ["tablet","strip","loose","bound"] (defScope<|tp 39):=by walk_at "F"
 refine F.ok SC (fun vs H Q E h=>?_)<|fun cdv A outer s H vs Q E hr h=>?_;·obtain⟨_,_,_,_,_,_,_,_,_,_,rfl,_⟩:=h;rfl
 ·obtain⟨W0,tablet,strip,loose,bound,Z0j,Z1d,_,_,rfl,rfl,Z02,Z0f,Z0T,Z0U,Er,hq⟩:=h;cases Z0T;cases Z0U;refine⟨_,(ag (ay (nM (eX hr) (aH (bD (K:=K) rfl) (di Z2q<|a8 (pv 0)<|a8 (pv 1)<|a8 (pv 2)<|a8 (pv 3) aa) ae<|fun _ _=>rfl) (bb (v:=.ref _) (by rfl) Z1b rfl) ae))),?_⟩;have E0:Ext W0 W0:=.refl W0;unfold Bq at hq;exact aO (Er:=Er) (nN (cO (Gh<|iF (aX Z02) (aX Z0f) bh bh) ah) (gc Z1c (gI _)<|gI _) ah)<|DF hq fun y3 hq v4 W5 e6 h7=>hq v4 W5 (E0.trans e6) h7
theorem Cv{f:Addr}{fd:De}(F:Fun K "chosen" "chosen" (tp 41) f fd):FnOk P w K mg base CX0 (1) f fd ["moves","counts","number"] (eF (isL<|isT2 K isS<|qC K) (isPD P w K isI) isI (rs<|isT3 K isS (qC K) isI)<|Br):=by
 have SC:FnScope ["moves","counts","number","at","turn","state"] ["moves","counts","number"] (defScope<|tp 41):=by walk_at "F"
 refine F.ok SC (fun vs H Q E h=>?_)<|fun cdv A outer s H vs Q E hr h=>?_;·obtain⟨_,_,_,_,_,_,_,_,rfl,_⟩:=h;rfl
 ·obtain⟨W0,moves,counts,number,Zae,Z9Z,_,rfl,rfl,Z0K,Z0M,Z4Z,Er,hq⟩:=h;cases Z4Z;refine⟨_,(af (dn 3 ae)
   (af (sI DG (aI l0 (pv 2) (ig (P:=P) (w:=w) (K:=K) rfl rfl rfl (eX hr) (pv 1) (aH (aY (K:=K) rfl) (aH (bD (K:=K) rfl) (pv 0) (pv 3)<|fun _ _=>rfl) ae<|fun _ _=>rfl)<|fun _ _=>rfl)<|aJ _) (af (oq (i:=2) SC.nd rfl (by walk_at "L") (ig (P:=P) (w:=w) (K:=K) rfl rfl rfl (eX hr) (pv 1) (aH (aY (K:=K) rfl) (aH (bD (K:=K) rfl) (pv 0) (pv 3)<|fun _ _=>rfl) ae<|fun _ _=>rfl)<|fun _ _=>rfl) yn)
   (ag (oq (i:=3) SC.nd rfl (by walk_at "L") ae ym))))
   (af (eV (aH (bD (K:=K) rfl) (pv 0) (pv 3)<|fun _ _=>rfl)<|bM (K:=K) (n:=2) rfl rfl<|au (eU 4)<|au (eU 5) bI)
   (ag (ay (bc (a8 (pv 4) (a8 (pv 5) (a8 (pv 2) aa))))))))),?_⟩
  have E0:Ext W0 W0:=.refl W0;unfold Br at hq;refine aq (Er:=Er) ah<|fun v3 W1 e2 h4=>?_;cases h4;have E0:=E0.trans e2;have Z0K:=Cz e2.g Z0K;have Z0M:=Cz e2.g Z0M;refine oU (Er:=Er) (c:=(zQ moves counts)) (f:=(zR moves counts)) (s0:=(number,(0:Int))) (n:=cap) (Iv:=fun(s7:Ii)(W8:Wd)(g9:St)=>g9=[some Zae,some Z9Z,some<|.int s7.1,some<|.int s7.2,none,none]/\Ext W0 W8) (CA hq) ?_ ?_ ?_ ?_ ?_;·exact⟨rfl,E0⟩
  ·intro W11 W12 s6 sg13 e17 iv;obtain⟨rfl,E0⟩:=iv;have E0:=E0.trans e17;exact⟨rfl,E0⟩
  ·intro W11 s6 sg13 hW15 iv;obtain⟨rfl,E0⟩:=iv;have Z0K:=Cz hW15 Z0K;have Z0M:=Cz hW15 Z0M;unfold zQ;exact(aM<|d5 bh<|jg (aX Z0M)<|bw (f:=fun(b:Tx×Ii)=>b.2) Ah<|cO (FC<|aX Z0K) bh)
  ·intro Wb10 W11 s6 sg13 P14 hW15 hB16 iv hq;obtain⟨rfl,E0⟩:=iv;have Z0K:=Cz hW15 Z0K;have Z0M:=Cz hW15 Z0M;unfold zR at hq;refine rG (Er:=Er) (a:=s6.1) (jg (aX Z0M)<|bw (f:=fun(b:Tx×Ii)=>b.2) Ah<|cO (FC<|aX Z0K) bh)<|(CA hq).imp fun y23 hq W24 e25=>?_;have E0:=E0.trans e25;have hB16:=hB16.trans e25.g;have Z0K:=Cz e25.g Z0K;have Z0M:=Cz e25.g Z0M;refine qj (Er:=Er) (a:=s6.2) ah<|fun W26 e27=>?_;have E0:=E0.trans e27;have hB16:=hB16.trans e27.g;have Z0K:=Cz e27.g Z0K;have Z0M:=Cz e27.g Z0M
   try dsimp only
   refine cw (W:=W26) ((s6.1-y23),(s6.2+(1:Int))) hB16 ?_ hq;exact⟨rfl,E0⟩
  ·intro s28 W29 sg30 hS31 iv hq;obtain⟨rfl,E0⟩:=iv;have Z0K:=Cz hS31 Z0K;refine dE (Er:=Er) (cO (FC<|aX Z0K) bh)<|(CA hq).imp fun y32 hq v33 W34 e35 h36=>?_;have E0:=E0.trans e35;refine iH h36 fun v37 v39 h38 h40=>?_;cases h38;exact aO (Er:=Er) (dz (K:=K) cR (aX h40) bh)<|fun v41 W42 e43 h44=>hq v41 W42 (E0.trans e43) h44
theorem AH{f:Addr}{fd:De}(F:Fun K "way" "way" (tp 40) f fd){pj:Cd->(List Pl)->Int->Int->Res (List<|List<|Ii×Int)}{pq:(List<|Tx×Ii)->(List<|Ii×Int)->Int->Res (Tx×Ii×Int)}{gA:Cd->Pl->Int->Int->Ii->Res (List<|Tx×Ii)}{Z0a Z0o Z0l Z0m Z0n Z0c Z0d Z0e Z07 Z0p Z09 Z08 Z0q:Addr}(Z2q:Cal P w K mg base "tails" ["tablet","strip","loose","bound"] (7) (gQ (qA K) (qD K) isI isI (ro<|isPD P w K isI) pj))(Z50:Cal P w K mg base "chosen" ["moves","counts","number"] (1) (eF (isL<|isT2 K isS<|qC K) (isPD P w K isI) isI (rs<|isT3 K isS (qC K) isI) pq))(Z1m:Cal P w K mg base "onward" ["tablet","mark","loose","bound","state"] (4) (gB (qA K) (qB K) isI isI (qC K) (ro<|isT2 K isS<|qC K) gA))(h_enumerate:mg "enumerate"=none){Z11:Addr}(Z1b:mg "START"=some (.ref Z11))(Z1c:∀H,SqT K H Z11 [.int (0),.int<|0])(Z1v:mg "NoSuchWay"=some (.ref Z08))(Z3a:Ecl base Z08):FnOk P w K mg base (CXR P w) (8) f fd ["tablet","strip","loose","bound","number"] (um (qA K) (qD K) isI isI isI [Z0a,Z0o,Z0l,Z0m,Z0n,Z0c,Z0d,Z0e,Z07,Z0p,Z09,Z08,Z0q] (rs isS)<|nQ pj pq gA):=by
 have SC:FnScope ["tablet","strip","loose","bound","number","counts","column","state","at","mark","turn"] ["tablet","strip","loose","bound","number"] (defScope<|tp 40):=by walk_at "F"
 refine F.okR SC (fun vs H Q E h=>?_)<|fun cdv A outer s H vs Q E hr h=>?_;·obtain⟨_,_,_,_,_,_,_,_,_,_,_,_,rfl,_⟩:=h;rfl
 ·obtain⟨W0,tablet,strip,loose,bound,number,Z0j,Z1d,_,_,_,rfl,rfl,Z02,Z0f,Z0T,Z0U,Z4Z,Er,hEr,hq⟩:=h;cases Z0T;cases Z0U;cases Z4Z;refine⟨_,(af (dn 5<|di Z2q<|a8 (pv 0)<|a8 (pv 1)<|a8 (pv 2)<|a8 (pv 3) aa)
   (af (bO (Jz (mP (aI pN (pv 4) ae<|aJ _) (lM (aI l0 (pv 4) (nM (eX hr) (aH (bD (K:=K) rfl) (pv 5) ae<|fun _ _=>rfl) (bb (v:=.ref _) (by rfl) Z1b rfl) ae)<|aJ _)))) (ag (uf Z3a (by rfl) Z1v<|a8 (rM<|yT<|yU (pv 4) yS) aa)) aS)
   (af (dn 6 aD)
   (af (dn 7 (bb (v:=.ref _) (by rfl) Z1b rfl))
   (af (yP (cE DG rfl (pU (K:=K) rfl rfl h_enumerate<|a8 (pv 1) aa) (bM (K:=K) (n:=2) rfl rfl<|au (eU 8)<|au (eU 9) bI) (af (eV (di Z50<|a8 (di Z1m<|a8 (pv 0)<|a8 (pv 9)<|a8 (pv 2)<|a8 (pv 3)<|a8 (pv 7) aa)<|a8 (aH (bD (K:=K) rfl) (pv 5) (ai bK (pv 8) ae)<|fun _ _=>rfl)<|a8 (pv 4) aa)<|bM (K:=K) (n:=3) rfl rfl<|au (eU 10)<|au (eU 7)<|au (eU 4) bI)
   (ag (oq (i:=6) SC.nd rfl (by walk_at "L") (pv 10) wZ)))))
   (ag (ay (pv 6)))))))),?_⟩
  have E0:Ext W0 W0:=.refl W0;unfold nQ at hq;refine aq (Er:=Er) (Ey<|iF (aX Z02) (aX Z0f) bh bh)<|(CA hq).imp fun y3 hq v4 W1 e2 h5=>?_;have E0:=E0.trans e2;have Z02:=Cz e2.g Z02;have Z0f:=Cz e2.g Z0f;refine dW (Er:=Er) (tM (aM<|d5 bh ah)<|aM<|d5 bh<|nN (cO (FC<|aX h5) ah) (gc Z1c (gI _)<|gI _) ah)<|(CA hq).imp fun y8 hq W9 e10=>?_;have E0:=E0.trans e10;have Z02:=Cz e10.g Z02;have Z0f:=Cz e10.g Z0f;have h5:=Cz e10.g h5;by_cases hb77:y8=true
  ·rw[if_pos hb77]at hq ⊢;exact uo (Er:=Er) (j:=11) (hEr.mono E0) rfl (rN (yW (x:=CI "no column has the number ") (l:=[110,111,32,99,111,108,117,109,110,32,104,97,115,32,116,104,101,32,110,117,109,98,101,114,32]) (du _ _ (by decide +kernel))<|wB bh yV)) hq
  ·rw[if_neg hb77]at hq ⊢
   try dsimp only[aL]
   refine aq (Er:=Er) (aE (x:=CI "") (l:=[]) (du _ _ (by decide +kernel)))<|fun v17 W15 e16 h18=>?_;cases h18;have E0:=E0.trans e16;have Z02:=Cz e16.g Z02;have Z0f:=Cz e16.g Z0f;have h5:=Cz e16.g h5;refine aq (Er:=Er) (gc Z1c (gI _)<|gI _)<|fun v21 W19 e20 h22=>?_;have E0:=E0.trans e20;have Z02:=Cz e20.g Z02;have Z0f:=Cz e20.g Z0f;have h5:=Cz e20.g h5;refine dh (Er:=Er) (f:=(eJ pq gA tablet loose bound y3)) (s0:=((0,0),number,([]:Tx))) (Iv:=fun(s25:(Ii×Int×Tx))(W26:Wd)(g27:St)=>∃(v28:V)(d30:Option V)(d31:Option V)(d32:Option V),g27=[some Z0j,some Z1d,some<|.int loose,some<|.int bound,some<|.int s25.2.1,some v4,some<|.str<|sOf s25.2.2,some v28,d31,d32,d30]/\Ext W0 W26/\(qC K) W26.G s25.1 v28) (q9<|aX Z0f) (CA hq) ?_ ?_ ?_
   ·intro W44 e45;have E0:=E0.trans e45;have Z02:=Cz e45.g Z02;have h5:=Cz e45.g h5;have h22:=Cz e45.g h22;exact⟨_,_,_,_,rfl,E0,h22⟩
   ·intro Wb33 W34 W35 a23 v36 s24 sg37 P38 hW39 hB40 iv e41 h42 hq;obtain⟨v28,d30,d31,d32,rfl,E0,h29⟩:=iv;have Z02:=Cz hW39 Z02;have h5:=Cz hW39 h5;have E0:=E0.trans e41;have hB40:=hB40.trans e41.g;have Z02:=Cz e41.g Z02;have h5:=Cz e41.g h5;have h29:=Cz e41.g h29;refine iH h42 fun v50 v52 h51 h53=>?_;cases h51;unfold eJ at hq;refine dE (Er:=Er) (gb (Ey<|gw (aX Z02) (aX h53) bh bh<|aX h29) (cO (FC<|aX h5)<|ba bh ah) bh)<|(CA hq).imp fun y56 hq v57 W58 e59 h60=>?_;have E0:=E0.trans e59;have hB40:=hB40.trans e59.g;have Z02:=Cz e59.g Z02;have h5:=Cz e59.g h5;have h53:=Cz e59.g h53;refine rB h60 fun v61 v63 v65 h62 h64 h66=>?_;cases h62;cases h66;refine x3 (Er:=Er) (a:=s24.2.2) cR<|(CA hq).imp fun y69 hq W67 e68=>?_;have E0:=E0.trans e68;have hB40:=hB40.trans e68.g;have Z02:=Cz e68.g Z02;have h5:=Cz e68.g h5;have h53:=Cz e68.g h53;have h64:=Cz e68.g h64
    try dsimp only
    refine cw (W:=W67) (y56.2.1,y56.2.2,y69) hB40 ?_ hq;exact⟨_,_,_,_,rfl,E0,h64⟩
   ·intro s70 W71 sg72 hS73 iv hq;obtain⟨v28,d30,d31,d32,rfl,E0,h29⟩:=iv;exact aO (Er:=Er) cR<|fun v74 W75 e76 h77=>hq v74 W75 (E0.trans e76) h77
theorem Cw{f:Addr}{fd:De}(F:Fun K "_law_tried" "_law_tried" (tp 64) f fd){cV:Cd->(List Pl)->Int->Int->Int->Res Tx}{Z0a Z0o Z0l Z0m Z0n Z0c Z0d Z0e Z07 Z0p Z09 Z08 Z0q Z04:Addr}(C_way:CalR P w K mg base "way" ["tablet","strip","loose","bound","number"] (8) (um (qA K) (qD K) isI isI isI [Z0a,Z0o,Z0l,Z0m,Z0n,Z0c,Z0d,Z0e,Z07,Z0p,Z09,Z08,Z0q] (rs isS) cV))(Z:Kin K base [Z0a,Z0o,Z0l,Z0m,Z0n,Z0c,Z0d,Z0e,Z07,Z0p,Z09,Z08,Z0q] Z04)(Z1w:mg "BandError"=some (.ref Z04))(Z2y:CalH P w K mg base "_law_kinds" ["_law_e"] 1 (gz K [Z0a,Z0o,Z0l,Z0m,Z0n,Z0c,Z0d,Z0e,Z07,Z0p,Z09,Z08,Z0q] Z04)):FnOk P w K mg base CX0 (9) f fd ["_law_card_here","_law_strip","_law_loose","_law_bound","_law_number"] (gB (qA K) (qD K) isI isI isI (rs<|isU K)<|Bs cV):=by
 have SC:FnScope ["_law_card_here","_law_strip","_law_loose","_law_bound","_law_number","_law_found","_law_e"] ["_law_card_here","_law_strip","_law_loose","_law_bound","_law_number"] (defScope<|tp 64):=by walk_at "F"
 obtain⟨bmB,XB⟩:=Z.top;refine F.ok SC (fun vs H Q E h=>?_)<|fun cdv A outer s H vs Q E hr h=>?_;·obtain⟨_,_,_,_,_,_,_,_,_,_,_,_,rfl,_⟩:=h;rfl
 ·obtain⟨W0,Z01,Z1r,Z0B,Z0C,Z1O,Z0h,Z1e,_,_,_,rfl,rfl,Z00,Z0t,Z4i,Z4j,Z88,Er,hq⟩:=h;cases Z4i;cases Z4j;cases Z88
  refine⟨_,(af (yQ (i:=6) (E:=EX K [Z0a,Z0o,Z0l,Z0m,Z0n,Z0c,Z0d,Z0e,Z07,Z0p,Z09,Z08,Z0q] [114,101,102,117,115,101,100] W0 Q) ⟨rfl,rfl⟩ (fun _=>(ag (dn 5 (qm C_way Am (hr.mono (by decide)) (by rfl)<|a8 (pv 0)<|a8 (pv 1)<|a8 (pv 2)<|a8 (pv 3)<|a8 (pv 4) aa)))) (by rfl) Z1w XB (EX.cl Z) SC.nd rfl rfl (fun x C od oe hh=>(ag (ay (bc (a8 aD (a8 (wy Z2y hh ((hr.mono (by decide)).h _) rfl (CZ ..) (by rfl)<|a8 (pv 6) aa) aa)))))))
   (ag (ay (bc (a8 aD (a8 (pv 5) aa)))))),?_⟩
  have E0:Ext W0 W0:=.refl W0;rw[show L2.start ["_law_card_here","_law_strip","_law_loose","_law_bound","_law_number","_law_found","_law_e"] [Z0h,Z1e,.int Z0B,.int Z0C,.int Z1O]=[some Z0h,some Z1e,some<|.int Z0B,some<|.int Z0C,some<|.int Z1O,none,none]from rfl];unfold Bs at hq;refine wz (Er:=Er) (K:=K) (base:=base) (R:=isS) (s:=[114,101,102,117,115,101,100]) (i:=5) (σ':=fun v5=>[some Z0h,some Z1e,some<|.int Z0B,some<|.int Z0C,some<|.int Z1O,some v5,none]) E0 Z (du _ _ (by decide +kernel)) rfl (fun Er hE1=>(ly hE1 (aX Z00) (aX Z0t) bh bh bh))<|(CA hq).imp fun r2 hq=>?_;cases r2 with
  |inr j4=>exact hq
  |inl y3=>
   intro v5 W6 e7 h8;cases h8;have E0:=E0.trans e7;exact aO (Er:=Er) (oO (K:=K) (u9 lu lu) (bz (K:=K) (aE (x:=CI "way") (l:=[119,97,121]) (du _ _ (by decide +kernel))) cR))<|fun v9 W10 e11 h12=>hq v9 W10 (E0.trans e11) h12
theorem AI{f:Addr}{fd:De}(F:Fun K "law" "law" (tp 65) f fd){vS:List Int->Int->Res (Cd×(List Pl)×Int)}{iw:List Int->Int->Res Int}{xf:Int->Res (List Tx)}{xg:Cd->(List Pl)->Int->Int->Tx->Res Bool}{xo:Cd->(List Pl)->Int->Int->Res Int}{cV:Cd->(List Pl)->Int->Int->Int->Res Tx}{nR:Cd->(List Pl)->Int->Int->Int->Res Dat}(Z2z:Cal P w K mg base "_law_small" ["_law_script","_law_most"] (5) (bQ (isScr K) isI (rs<|isT3 K (qA K) (qD K) isI) vS))(Z0H:Cal P w K mg base "_law_at" ["_law_script","_law_k"] (1) (bQ (isScr K) isI (rs isI) iw))(Z3T:Cal P w K mg base "_law_all" ["_law_many"] (1) (dD isI (rs<|isL isS) xf))(Z3b:Cal P w K mg base "_law_does" ["_law_card_here","_law_strip","_law_loose","_law_bound","_law_text"] (4) (gB (qA K) (qD K) isI isI isS (rs isB) xg))(Z0S:Cal P w K mg base "_law_same" ["_law_found","_law_due"] 26 (eR K 26))(Z6l:Cal P w K mg base "ways" ["tablet","strip","loose","bound"] (8) (gQ (qA K) (qD K) isI isI (rs isI) xo))(C_way:CalR P w K mg base "way" ["tablet","strip","loose","bound","number"] (8) (um (qA K) (qD K) isI isI isI [Z0a,Z0o,Z0l,Z0m,Z0n,Z0c,Z0d,Z0e,Z07,Z0p,Z09,Z08,Z0q] (rs isS) cV))(Z2A:Cal P w K mg base "_law_tried" ["_law_card_here","_law_strip","_law_loose","_law_bound","_law_number"] (9) (gB (qA K) (qD K) isI isI isI (rs<|isU K) nR))(h_enumerate:mg "enumerate"=none)(h_len:mg "len"=none)(h_list:mg "list"=none):FnOk P w K mg base CX0 (27) f fd ["_law_script"] (Au (isScr K) (rs isB)<|qJ vS iw xf xg xo cV nR):=by
 have SC:FnScope ["_law_script","_law_card_here","_law_strip","_law_loose","_law_bound","_law_due","_law_hand","_law_k","_law_text","_law_number"] ["_law_script"] (defScope<|tp 65):=by walk_at "F"
 refine F.ok SC (fun vs H Q E h=>?_)<|fun cdv A outer s H vs Q E hr h=>?_;·obtain⟨_,_,_,_,rfl,_⟩:=h;rfl
 ·obtain⟨W0,Z0s,Z0O,rfl,rfl,Z03,Er,hEr,hq⟩:=h;refine⟨_,(af (eV (di Z2z<|a8 (pv 0)<|a8 ae aa)<|bM (K:=K) (n:=3) rfl rfl<|au (eU 1)<|au (eU 2)<|au (eU 3) bI)
   (af (dn 4<|aH (bD (K:=K) rfl) (bE<|a8 ae<|a8 ae<|a8 ae<|a8 ae<|a8 ae<|a8 ae<|a8 ae aa) (ai aP (di Z0H<|a8 (pv 0)<|a8 ae aa) ae)<|fun _ _=>rfl)
   (af (jy (i:=5) SC.nd rfl (by walk_at "L") (N:=["_law_text","_law_card_here","_law_strip","_law_loose","_law_bound"]) (cap:=[none,some 1,some 2,some 3,some 4]) (gY rfl (by decide +kernel) rfl (by decide +kernel) (by rfl) (by rfl)) rfl (bV (K:=K) rfl (di Z3T (a8 (ar (bJ (K:=K) rfl) (by rfl) h_len Ef<|a8 (pv 2) aa) aa))) (fun _ _ _ _=>(bo (i:=0) (show Ee (["_law_text","_law_card_here","_law_strip","_law_loose","_law_bound"]:List Str) by decide +kernel) rfl (by walk_at "L"))) (fun _ _ _ _=>(lU<|cK<|di Z3b<|a8 (pv 1)<|a8 (pv 2)<|a8 (pv 3)<|a8 (pv 4)<|a8 (pv 0) aa))<|fun _ _ _ _=>(pv 0))
   (af (dn 6 (gr (kL (K:=K) rfl) (by rfl) h_list GO<|a8 (pv 2) aa))
   (af (bO (gH (cK (di Z0S (a8 (di Z6l<|a8 (pv 1)<|a8 (pv 6)<|a8 (pv 3)<|a8 (pv 4) aa) (a8 (ar (bJ (K:=K) rfl) (by rfl) h_len Ef<|a8 (pv 5) aa) aa))))) (ag<|ay dA) aS)
   (af (cE DG rfl (pU (K:=K) rfl rfl h_enumerate<|a8 (pv 5) aa) (bM (K:=K) (n:=2) rfl rfl<|au (eU 7)<|au (eU 8) bI) (ag (bO (gH (cK (di Z0S (a8 (qm C_way As (hr.mono (by decide)) (by rfl)<|a8 (pv 1)<|a8 (pv 6)<|a8 (pv 3)<|a8 (pv 4)<|a8 (pv 7) aa)<|a8 (pv 8) aa)))) (ag<|ay dA) aS)))
   (af (bO (gH<|cK<|di Z0S<|a8 (pv 6)<|a8 (pv 2) aa) (ag<|ay dA) aS)
   (af (cE DG rfl (bV (K:=K) rfl (bE (a8 (ai fV ae ae) (a8 (ar (bJ (K:=K) rfl) (by rfl) h_len Ef<|a8 (pv 5) aa) (a8 (ai bK (ai bK (ar (bJ (K:=K) rfl) (by rfl) h_len Ef<|a8 (pv 5) aa) ae)<|ai aP (di Z0H<|a8 (pv 0)<|a8 ae aa)<|ai sM ae ae) (a8 (ai fV ae (ar (bJ (K:=K) rfl) (by rfl) h_len Ef<|a8 (pv 5) aa)) aa)))))) (eU 9) (ag (bO (Jz (mP (aI pN (pv 9) ae<|aJ _) (lM (aI l0 (pv 9) (ar (bJ (K:=K) rfl) (by rfl) h_len Ef<|a8 (pv 5) aa)<|aJ _)))) (ag<|bO (gH<|cK<|di Z0S<|a8 (di Z2A<|a8 (pv 1)<|a8 (pv 2)<|a8 (pv 3)<|a8 (pv 4)<|a8 (pv 9) aa)<|a8 (bc<|a8 aD<|a8 (bE<|a8 aD aa) aa) aa) (ag<|ay dA) aS) aS)))
   (ag (ay dA)))))))))),?_⟩
  have E0:Ext W0 W0:=.refl W0;rw[show L2.start ["_law_script","_law_card_here","_law_strip","_law_loose","_law_bound","_law_due","_law_hand","_law_k","_law_text","_law_number"] [Z0O]=[some Z0O,none,none,none,none,none,none,none,none,none]from rfl];unfold qJ at hq;refine dE (Er:=Er) (bf (aX Z03) ah)<|(CA hq).imp fun y1 hq v2 W3 e4 h5=>?_;have E0:=E0.trans e4;have Z03:=Cz e4.g Z03;refine rB h5 fun v6 v8 v10 h7 h9 h11=>?_;cases h11;refine aq (Er:=Er) (cO (Gh<|bX<|az ah<|az ah<|az ah<|az ah<|az ah<|az ah<|az ah<|bW (R:=isI)) (aA (fun _=>by decide)<|bf (aX Z03) ah))<|(CA hq).imp fun y16 hq v17 W12 e13 h18=>?_;cases h18;have E0:=E0.trans e13;have Z03:=Cz e13.g Z03;have h7:=Cz e13.g h7;have h9:=Cz e13.g h9;refine aq (Er:=Er) (Ey (jJ (cJ<|cP<|dU<|FC<|aX h9) fun W23 a21 v22 e24 h25 Q30 k31=>by
   have h26:=Dv (R:=sh<|qA K) e24 h7;have h27:=Dv (R:=sh<|qD K) e24 h9;cases h25;refine gn ?_;refine⟨by simp[Keep,aZ],((kP<|nj (aX h26) (aX h27) bh bh cR):TV Er _ [some (.str<|sOf a21),some v6,some v8,some<|.int y1.2.2,some<|.int y16] _ _) _ (.refl _) _ (DF (P:=fun b32=>(if b32=true then CK (some a21)else CK none:Res (Option Tx)).OkE Er _) (CA k31) fun b32 k37 W35 e36=>?_)⟩;cases b32 with
   |false=>exact k37 none _ e36 trivial
   |true=>
    rw[if_pos rfl];refine EV.go (Er:=Er) (σ:=[some (.str (sOf a21)),some v6,some v8,some (.int y1.2.2),some (.int y16)]) (W1:=W35) e36 cR ?_;exact fun u40 W38 e39 h41=>k37 (some u40) _ (e36.trans e39) h41)) ((CA hq).imp fun y43 hq v44 W19 e20 h45=>?_)
  have E0:=E0.trans e20;have Z03:=Cz e20.g Z03;have h7:=Cz e20.g h7;have h9:=Cz e20.g h9;refine aq (Er:=Er) (Ey<|tV<|FC<|aX h9)<|fun v48 W46 e47 h49=>?_;have E0:=E0.trans e47;have Z03:=Cz e47.g Z03;have h7:=Cz e47.g h7;have h9:=Cz e47.g h9;have h45:=Cz e47.g h45;refine dW (Er:=Er) (lZ (kP (nA (by decide) (ni (aX h7) (aX h49) bh bh)<|dU<|FC<|aX h45)))<|(CA hq).imp fun y52 hq W53 e54=>?_;have E0:=E0.trans e54;have Z03:=Cz e54.g Z03;have h7:=Cz e54.g h7;have h9:=Cz e54.g h9;have h45:=Cz e54.g h45;have h49:=Cz e54.g h49;by_cases hb154:y52=true
  ·rw[if_pos hb154]at hq ⊢;exact aO (Er:=Er) gF<|fun v55 W56 e57 h58=>hq v55 W56 (E0.trans e57) h58
  ·rw[if_neg hb154]at hq ⊢
   try dsimp only[aL]
   refine fe (Er:=Er) (f:=(gh cV y1 y16)) (s0:=()) (Iv:=fun(s61:Unit)(W62:Wd)(g63:St)=>∃(d64:Option V)(d65:Option V),g63=[some Z0O,some v6,some v8,some<|.int y1.2.2,some<|.int y16,some v44,some v48,d64,d65,none]/\Ext W0 W62) (q9<|aX h45) (CA hq) ?_ ?_ ?_
   ·intro W77 e78;have E0:=E0.trans e78;have Z03:=Cz e78.g Z03;have h7:=Cz e78.g h7;have h9:=Cz e78.g h9;have h45:=Cz e78.g h45;have h49:=Cz e78.g h49;exact⟨_,_,rfl,E0⟩
   ·intro Wb66 W67 W68 a59 v69 s60 sg70 P71 hW72 hB73 iv e74 h75 hrt76 hq;obtain⟨d64,d65,rfl,E0⟩:=iv;have Z03:=Cz hW72 Z03;have h7:=Cz hW72 h7;have h9:=Cz hW72 h9;have h45:=Cz hW72 h45;have h49:=Cz hW72 h49;have E0:=E0.trans e74;have hB73:=hB73.trans e74.g;have Z03:=Cz e74.g Z03;have h7:=Cz e74.g h7;have h9:=Cz e74.g h9;have h45:=Cz e74.g h45;have h49:=Cz e74.g h49;refine iH h75 fun v83 v85 h84 h86=>?_;cases h84;cases h86;unfold gh at hq;refine nk (Er:=Er) (lZ (kP (ub (by decide) (ly (BE hEr) (aX h7) (aX h49) bh bh bh) cR)))<|(CA hq).imp fun y89 hq W90 e91=>?_;have E0:=E0.trans e91;have hB73:=hB73.trans e91.g;have Z03:=Cz e91.g Z03;have h7:=Cz e91.g h7;have h9:=Cz e91.g h9;have h45:=Cz e91.g h45;have h49:=Cz e91.g h49;by_cases hb95:y89=true
    ·rw[if_pos hb95]at hq ⊢;exact aO (Er:=Er) gF<|fun v92 W93 e94 h95=>(hrt76 _ hq) v92 W93 (E0.trans e94) h95
    ·rw[if_neg hb95]at hq ⊢
     try dsimp only[aL]
     try dsimp only
     refine cw (W:=W90) () hB73 ?_ hq;exact⟨_,_,rfl,E0⟩
   ·intro s96 W97 sg98 hS99 iv hq;obtain⟨d64,d65,rfl,E0⟩:=iv;have Z03:=Cz hS99 Z03;have h7:=Cz hS99 h7;have h9:=Cz hS99 h9;have h45:=Cz hS99 h45;have h49:=Cz hS99 h49;refine dW (Er:=Er) (lZ (kP (nA (by decide) (aX h49)<|aX h9)))<|(CA hq).imp fun y101 hq W102 e103=>?_;have E0:=E0.trans e103;have Z03:=Cz e103.g Z03;have h7:=Cz e103.g h7;have h9:=Cz e103.g h9;have h45:=Cz e103.g h45;have h49:=Cz e103.g h49;by_cases hb154:y101=true
    ·rw[if_pos hb154]at hq ⊢;exact aO (Er:=Er) gF<|fun v104 W105 e106 h107=>hq v104 W105 (E0.trans e106) h107
    ·rw[if_neg hb154]at hq ⊢
     try dsimp only[aL]
     refine fe (Er:=Er) (f:=(cW nR y1 y16 y43)) (s0:=()) (Iv:=fun(s115:Unit)(W116:Wd)(g117:St)=>∃(d118:Option V),g117=[some Z0O,some v6,some v8,some<|.int y1.2.2,some<|.int y16,some v44,some v48,d64,d65,d118]/\Ext W0 W116) (cJ (Ey (bX (az (ba ah ah) (az (dU<|FC<|aX h45) (az (ba (ba (dU<|FC<|aX h45) ah) (jF (bf (aX Z03) ah) (qc (r:=10000000000000000000000000000000000000000) (by decide) (by decide))))<|az (ba ah<|dU<|FC<|aX h45)<|bW (R:=isI))))))) (CA hq) ?_ ?_ ?_
     ·intro W130 e131;have E0:=E0.trans e131;have h7:=Cz e131.g h7;have h9:=Cz e131.g h9;have h45:=Cz e131.g h45;exact⟨_,rfl,E0⟩
     ·intro Wb119 W120 W121 a113 v122 s114 sg123 P124 hW125 hB126 iv e127 h128 hrt129 hq;obtain⟨d118,rfl,E0⟩:=iv;have h7:=Cz hW125 h7;have h9:=Cz hW125 h9;have h45:=Cz hW125 h45;have E0:=E0.trans e127;have hB126:=hB126.trans e127.g;have h7:=Cz e127.g h7;have h9:=Cz e127.g h9;have h45:=Cz e127.g h45;cases h128;refine gn (σ':=[some Z0O,some v6,some v8,some<|.int y1.2.2,some<|.int y16,some v44,some v48,d64,d65,some<|.int a113]) ?_;unfold cW at hq;refine nk (Er:=Er) (tM (aM<|d5 bh ah)<|aM<|d5 bh<|dU<|FC<|aX h45)<|(CA hq).imp fun y134 hq W135 e136=>?_;have E0:=E0.trans e136;have hB126:=hB126.trans e136.g;have h7:=Cz e136.g h7;have h9:=Cz e136.g h9;have h45:=Cz e136.g h45;by_cases hb145:y134=true
      ·rw[if_pos hb145]at hq ⊢;refine nk (Er:=Er) (lZ (kP (ua (by decide) (nj (aX h7) (aX h9) bh bh bh) (oO (K:=K) (u:=fun(z:Tx×(List Tx))=>Dat.t [Mb z.1,Dat.l<|z.2.map fun(z:Tx)=>Mb z]) (u9 lu<|xT (u:=fun(z:Tx)=>Mb z) lu) (bz (K:=K) (aE (x:=CI "refused") (l:=[114,101,102,117,115,101,100]) (du _ _ (by decide +kernel))) (Ey (bX (az (aE (x:=CI "NoSuchWay") (l:=[78,111,83,117,99,104,87,97,121]) (du _ _ (by decide +kernel)))<|bW (R:=isS)))))))))<|(CA hq).imp fun y139 hq W140 e141=>?_;have E0:=E0.trans e141;have hB126:=hB126.trans e141.g;have h7:=Cz e141.g h7;have h9:=Cz e141.g h9;have h45:=Cz e141.g h45;by_cases hb145:y139=true
       ·rw[if_pos hb145]at hq ⊢;exact aO (Er:=Er) gF<|fun v142 W143 e144 h145=>(hrt129 _ hq) v142 W143 (E0.trans e144) h145
       ·rw[if_neg hb145]at hq ⊢
        try dsimp only[aL]
        try dsimp only
        refine cw (W:=W140) () hB126 ?_ hq;exact⟨_,rfl,E0⟩
      ·rw[if_neg hb145]at hq ⊢
       try dsimp only[aL]
       try dsimp only
       refine cw (W:=W135) () hB126 ?_ hq;exact⟨_,rfl,E0⟩
     ·intro s147 W148 sg149 hS150 iv hq;obtain⟨d118,rfl,E0⟩:=iv;exact aO (Er:=Er) gF<|fun v151 W152 e153 h154=>hq v151 W152 (E0.trans e153) h154
end
end Wb
namespace Wb
open PySem L2
section
variable{P:CT}{w:D6}{K:CF}{mg:Str->Option CD}{base:Heap}
theorem xq{f:Addr}{fd:De}{ps:List Str}{k:Nat}:FnOk P w K mg base CX0 k f fd ps (eR K 0):=⟨fun _ _ _ _ h=>h.elim,fun _ _ _ _ _ _ _ _ _ _ _ _ _ h=>h.elim⟩
theorem kit{K:CF}(a b:String)(r:Bool)(h:DR [] (.type a) (.type b)=some r):DR K (.type a) (.type b)=some r:=by first|exact h|(rw[<-h];rfl)
theorem gi{c:TT}{t rest:TS}{D:Ends}{σ:St}{H:Hp}(h:∀Q:Bool->Hp->Prop,Q false H->c σ H Q)(k:rest D σ H):fk (iY c t aL) rest D σ H:=h _ k
theorem nS{c:TT}{t rest:TS}{D:Ends}{σ:St}{H:Hp}(h:∀Q:Bool->Hp->Prop,Q true H->c σ H Q)(k:t {D with nx:=rest D} σ H):fk (iY c t aL) rest D σ H:=h _ k
local macro_rules | `(tactic|walk_at "S0")=>`(tactic|simp only[cz,bC,df,bL,tC,dP,ak,aQ,bZ,aL,bP,aV,cb,bj,cx,tB,ft,rU,eM,rI,cf,cm,aN,bt,fQ,cB,fP,cC,bA,cD,bB,fu,bu,aK,eO,fL,fJ,fK,cF,cH,cn,cy,cG,aF,aR,L2.start,Dk,FU,IF,Gr,F1,El,Gq,ES,HL,HM,EL,Ep,Ib,exists_eq_left',exists_eq_left,exists_and_left,exists_eq',exists_const,FO.injEq,N6.injEq,GW.injEq,V.ref.injEq,V.ty.injEq,J8,and_true,true_and,reduceCtorEq,false_and,and_false,exists_false,or_false,false_or,decide_eq_true_eq,Ic,decide_eq_false_iff_not,if_true,if_false,Dm,ite_true,ite_false,He,Jx,JM,JN,and_assoc])
local macro_rules | `(tactic|walk_at "S1")=>`(tactic|simp only[cz,fk,iY,bC,df,bL,tC,dP,ak,aQ,bZ,aL,bP,aV,cb,bj,cx,tB,ft,rU,eM,rI,cf,cm,aN,bt,fQ,cB,fP,cC,bA,cD,bB,fu,bu,aK,eO,fL,fJ,fK,cF,cH,cn,cy,cG,aF,aR,L2.start,Dk,FU,IF,Gr,F1,El,Gq,ES,HL,HM,EL,Ep,Ib,exists_eq_left',exists_eq_left,exists_and_left,exists_eq',exists_const,FO.injEq,N6.injEq,GW.injEq,V.ref.injEq,V.ty.injEq,J8,and_true,true_and,reduceCtorEq,false_and,and_false,exists_false,or_false,false_or,decide_eq_true_eq,Ic,decide_eq_false_iff_not,if_true,if_false,Dm,ite_true,ite_false,He,Jx,JM,JN,and_assoc])
theorem vm{f:Addr}{fd:De}(F:Fun K "_law_same" "_law_same" (tp 62) f fd)(h_len:mg "len"=none)(h_isinstance:mg "isinstance"=none)(h_bool:mg "bool"=none)(h_int:mg "int"=none)(h_str:mg "str"=none)(h_list:mg "list"=none)(h_tuple:mg "tuple"=none)(h_zip:mg "zip"=none){n:Nat}
  (Z0S:Cal P w K mg base "_law_same" ["_law_found","_law_due"] n (eR K n)):FnOk P w K mg base CX0 (n+1) f fd ["_law_found","_law_due"] (eR K<|n+1):=by
 have SC:FnScope ["_law_found","_law_due","_law_one","_law_other"] ["_law_found","_law_due"] (defScope<|tp 62):=by walk_at "F"
 refine F.ok SC (fun vs H Q E h=>?_)<|fun cdv A outer s H vs Q E hr h=>?_;·obtain⟨v,u,rfl,_⟩:=h;rfl
 ·obtain⟨v,u,rfl,h⟩:=h;have hr:Room n _:=hr
  refine⟨_,(af (bO (Jz<|mP (aI (op_isN.or ju) (pv 1) yj<|aJ _)<|mP (aI (op_isN.or ju) (pv 1) dA<|aJ _)<|lM<|aI (op_isN.or ju) (pv 1) dA<|aJ _) (ag (ay (jl (dg cS (ar (bp (K:=K) rfl) (by rfl) h_isinstance CO (a8 (pv 0) (a8 (cY (v:=.ty "bool") (by rfl) h_bool GP rfl) aa))) (ar (bp (K:=K) rfl) (by rfl) h_isinstance CO (a8 (pv 1) (a8 (cY (v:=.ty "bool") (by rfl) h_bool GP rfl) aa)))<|aJ _)<|jk<|dg cS (pv 0) (pv 1)<|aJ _))) aS)
   (af (bO (cK (ar (bp (K:=K) rfl) (by rfl) h_isinstance CO (a8 (pv 1) (a8 (cY (v:=.ty "int") (by rfl) h_int G2 rfl) aa)))) (ag (ay (jl (ar (bp (K:=K) rfl) (by rfl) h_isinstance CO (a8 (pv 0) (a8 (cY (v:=.ty "int") (by rfl) h_int G2 rfl) aa))) (jl (oo (ar (bp (K:=K) rfl) (by rfl) h_isinstance CO (a8 (pv 0) (a8 (cY (v:=.ty "bool") (by rfl) h_bool GP rfl) aa))))<|jk<|dg cS (pv 0) (pv 1)<|aJ _)))) aS)
   (af (bO (cK (ar (bp (K:=K) rfl) (by rfl) h_isinstance CO (a8 (pv 1) (a8 (cY (v:=.ty "str") (by rfl) h_str Jk rfl) aa)))) (ag (ay (jl (ar (bp (K:=K) rfl) (by rfl) h_isinstance CO (a8 (pv 0) (a8 (cY (v:=.ty "str") (by rfl) h_str Jk rfl) aa)))<|jk<|dg cS (pv 0) (pv 1)<|aJ _))) aS)
   (af (bO (Jz (fj (cK (ar (bp (K:=K) rfl) (by rfl) h_isinstance CO (a8 (pv 1) (a8 (cY (v:=.ty "list") (by rfl) h_list GO rfl) aa)))) (eN (gH (cK (ar (bp (K:=K) rfl) (by rfl) h_isinstance CO (a8 (pv 0) (a8 (cY (v:=.ty "list") (by rfl) h_list GO rfl) aa)))))))) (ag<|ay dA) aS)
   (af (bO (Jz (fj (cK (ar (bp (K:=K) rfl) (by rfl) h_isinstance CO (a8 (pv 1) (a8 (cY (v:=.ty "tuple") (by rfl) h_tuple GA rfl) aa)))) (eN (gH (cK (ar (bp (K:=K) rfl) (by rfl) h_isinstance CO (a8 (pv 0) (a8 (cY (v:=.ty "tuple") (by rfl) h_tuple GA rfl) aa)))))))) (ag<|ay dA) aS)
   (af (bO (aI jm (ar (bJ (K:=K) rfl) (by rfl) h_len Ef<|a8 (pv 0) aa) (ar (bJ (K:=K) rfl) (by rfl) h_len Ef<|a8 (pv 1) aa)<|aJ _) (ag<|ay dA) aS)
   (af (cE DG rfl (gZ (K:=K) rfl rfl h_zip<|a8 (pv 0)<|a8 (pv 1) aa) (bM (K:=K) (n:=2) rfl rfl (au (bo (i:=2) SC.nd rfl (by walk_at "L")) (au (bo (i:=3) SC.nd rfl (by walk_at "L")) bI))) (ag (bO (gH (cK (tu Z0S hr (by rfl)<|a8 (pv 2)<|a8 (pv 3) aa))) (ag<|ay dA) aS)))
   (ag (ay dA))))))))),?_⟩
  rcases h with⟨he,q⟩|⟨x,y,rfl,rfl,q⟩
  rotate_left
  ·refine gi (fun Q q=>?_)<|gi (fun Q q=>?_)<|nS (fun Q q=>?_) ?_;·walk_at "S0";exact q
   ·walk_at "S0";exact⟨_,.str _,_,kit "str" "int" false rfl,q⟩
   ·walk_at "S0";exact⟨_,.str _,_,kit "str" "str" true rfl,q⟩
   ·walk_at "S0";refine⟨_,.str _,_,kit "str" "str" true rfl,?_⟩;walk_at "S0";simpa using q
  have fl:∀v,L2.flat v=true->(∀H',Same H H'->Q (.bl true) H')->(v=.non\/(∃b,v=.bl b)\/(∃i,v=.int i)\/∃x,v=.str x):=fun v hv _=>by
   cases v with
   |non=>exact .inl rfl
   |bl b=>exact .inr<|.inl ⟨b,rfl⟩
   |int b=>exact .inr<|.inr<|.inl ⟨b,rfl⟩
   |str b=>exact .inr<|.inr<|.inr ⟨b,rfl⟩
   |_=>cases hv
  have he':(v=u/\L2.flat v=true)\/∃m p q xs ys,n=m+1/\v=.ref p/\u=.ref q/\((H p=some (.lst xs)/\H q=some (.lst ys))\/(SqT K H p xs/\SqT K H q ys))/\xs.length=ys.length/\∀(i:Nat)(x y:V),xs[i]? =some x->ys[i]? =some y->EqK K H m x y:=by
   cases n with
   |zero=>exact .inl he
   |succ m=>rcases he with z|⟨p,q,xs,ys,z⟩;exact .inl z;exact .inr ⟨m,p,q,xs,ys,rfl,z⟩
  rcases he' with⟨rfl,hf⟩|⟨m,p,q',xs,ys,hnm,rfl,rfl,hk,hl,hi⟩
  ·rcases fl v hf q with rfl | ⟨b,rfl⟩ | ⟨i,rfl⟩ | ⟨x,rfl⟩
   ·refine nS (fun Q q=>?_) ?_;·walk_at "S0";exact q
    ·walk_at "S0";refine⟨_,.non,_,kit "NoneType" "bool" false rfl,_,.non,_,kit "NoneType" "bool" false rfl,?_⟩;walk_at "S0";exact q H<|.refl H
   ·refine nS (fun Q q=>?_) ?_;·cases b<;>walk_at "S0"<;>exact q
    ·walk_at "S0";refine⟨_,.bl _,_,kit "bool" "bool" true rfl,_,.bl _,_,kit "bool" "bool" true rfl,?_⟩;walk_at "S0";exact q H<|.refl H
   ·refine gi (fun Q q=>?_)<|nS (fun Q q=>?_) ?_;·walk_at "S0";exact q
    ·walk_at "S0";exact⟨_,.int _,_,kit "int" "int" true rfl,q⟩
    ·walk_at "S0";refine⟨_,.int _,_,kit "int" "int" true rfl,?_⟩;walk_at "S0";refine⟨_,.int _,_,kit "int" "bool" false rfl,?_⟩;walk_at "S0";exact q H<|.refl H
   ·refine gi (fun Q q=>?_)<|gi (fun Q q=>?_)<|nS (fun Q q=>?_) ?_;·walk_at "S0";exact q
    ·walk_at "S0";exact⟨_,.str _,_,kit "str" "int" false rfl,q⟩
    ·walk_at "S0";exact⟨_,.str _,_,kit "str" "str" true rfl,q⟩
    ·walk_at "S0";refine⟨_,.str _,_,kit "str" "str" true rfl,?_⟩;walk_at "S0";exact q H<|.refl H
  ·subst hnm;obtain⟨T,tp1,tp2,tl,src1,src2,h1,h2,e1,e2⟩:∃(T:String)(tp1:TyOf K H (.ref p) (.type T))(tp2:TyOf K H (.ref q') (.type T))(tl:(T="list"/\SqL K H p xs/\SqL K H q' ys)\/(T="tuple"/\SqT K H p xs/\SqT K H q' ys))(src1 src2:Src),(∀H',Same H H'->src1.has K H' xs)/\(∀H',Same H H'->src2.has K H' ys)/\src1.val=.ref p/\src2.val=.ref q':=by
    rcases hk with⟨a,b⟩|⟨a,b⟩
    ·exact⟨"list",.lst a,.lst b,.inl ⟨rfl,Fe a,Fe b⟩,.lst p,.lst q',fun H' e=>Fe<|e _ _ a,fun H' e=>Fe<|e _ _ b,rfl,rfl⟩
    ·exact⟨"tuple",.tup a,.tup b,.inr ⟨rfl,a,b⟩,.tup p,.tup q',fun H' e=>EA e a,fun H' e=>EA e b,rfl,rfl⟩
   have hi0:DR K (.type T) (.type "int")=some false:=by rcases tl with⟨rfl,_⟩|⟨rfl,_⟩;exact kit _ _ _ rfl;exact kit _ _ _ rfl
   have hs0:DR K (.type T) (.type "str")=some false:=by rcases tl with⟨rfl,_⟩|⟨rfl,_⟩;exact kit _ _ _ rfl;exact kit _ _ _ rfl
   obtain⟨bl,hl0,hl1⟩:∃bl,DR K (.type T) (.type "list")=some bl/\DR K (.type T) (.type "tuple")=some (!bl):=by rcases tl with⟨rfl,_⟩|⟨rfl,_⟩;exact⟨true,kit _ _ _ rfl,kit _ _ _ rfl⟩;exact⟨false,kit _ _ _ rfl,kit _ _ _ rfl⟩
   have ln1:oA K (.ref p) H xs.length:=by rcases tl with⟨_,t1,_⟩|⟨_,t1,_⟩;exact .inl ⟨_,t1,rfl⟩;exact .inr ⟨_,t1,rfl⟩
   have ln2:oA K (.ref q') H ys.length:=by rcases tl with⟨_,_,t2⟩|⟨_,_,t2⟩;exact .inl ⟨_,t2,rfl⟩;exact .inr ⟨_,t2,rfl⟩
   refine gi (fun Q q=>?_)<|gi (fun Q q=>?_)<|gi (fun Q q=>?_)<|gi (fun Q q=>?_)<|gi (fun Q q=>?_)<|gi (fun Q q=>?_) ?_;·walk_at "S0";exact q
   ·walk_at "S0";exact⟨_,tp2,_,hi0,q⟩
   ·walk_at "S0";exact⟨_,tp2,_,hs0,q⟩
   ·walk_at "S0";refine⟨_,tp2,_,hl0,?_⟩;cases bl with
    |false=>exact q
    |true=>walk_at "S0";exact⟨_,tp1,_,hl0,q⟩
   ·walk_at "S0";refine⟨_,tp2,_,hl1,?_⟩;cases bl with
    |true=>exact q
    |false=>walk_at "S0";exact⟨_,tp1,_,hl1,q⟩
   ·walk_at "S0";refine⟨_,ln1,_,ln2,?_⟩;simp only[hl,cz,bC,df,bL,tC,dP,ak,aQ,bZ,aL,bP,aV,cb,bj,cx,tB,ft,rU,eM,rI,cf,cm,aN,bt,fQ,cB,fP,cC,bA,cD,bB,fu,bu,aK,eO,fL,fJ,fK,cF,cH,cn,cy,cG,aF,aR,L2.start,Dk,FU,IF,Gr,F1,El,Gq,ES,HL,HM,EL,Ep,Ib,exists_eq_left',exists_eq_left,exists_and_left,exists_eq',exists_const,FO.injEq,N6.injEq,GW.injEq,V.ref.injEq,V.ty.injEq,J8,and_true,true_and,reduceCtorEq,false_and,and_false,exists_false,or_false,false_or,decide_eq_true_eq,Ic,decide_eq_false_iff_not,if_true,if_false,Dm,ite_true,ite_false,He,Jx,JM,JN,and_assoc];exact q
   ·walk_at "S1";refine⟨_,rfl,_,rfl,src1,src2,xs,ys,by rw[e1,e2],h1 H<|.refl H,h2 H<|.refl H,wc (fun i σ H2=>Same H H2/\∃a b,σ=[some (.ref p),some<|.ref q',a,b]) ⟨.refl H,none,none,rfl⟩ (fun i σ H2⟨e,_⟩=>⟨h1 H2 e,h2 H2 e⟩) hl ?_ ?_⟩
    ·rintro i x y r σ H2 hx hy hr' ⟨e,a,b,rfl⟩;walk_at "S1";refine⟨_,KQ aG,rfl,?_⟩;walk_at "S1";refine⟨x,y,rfl,.inl ⟨(hi i x y hx hy).same (e.trans<|cN hr'),fun H3 e3=>?_⟩⟩;walk_at "S1";exact e.trans<|(cN hr').trans e3
    ·rintro σ H2 ⟨e,a,b,rfl⟩;walk_at "S1";exact q H2 e
def qK(K:CF):Sp:=fun vs H Q _=>∃(a:Addr)(ns:List Int),vs=[.ref a]/\SqL K H a (ns.map FO)/\ns.length<=63/\∀H',Q (.bl true) H'
end
end Wb
namespace Mi
theorem kA{s:List Int}(hs:s.length<=63)(k:Nat)(hk:k<=200):∃n,iw s (k:Int)=.ok n:=by
 unfold iw AR;by_cases h:(k:Int)<(s.length:Int)
 ·rw[if_pos (by simpa using h)];obtain⟨x,e,_⟩:=mj (xs:=s) (i:=(k:Int)) (by omega) h;exact⟨x,e⟩
 ·rw[if_neg (by simpa using h),u4 (by omega) (by omega)];exact⟨_,rfl⟩
theorem zg(c b:Int)(hb:1<=b)(hb2:b<1073741824)(k:Nat)(s:Int×Int×List Int)(h1:0<=s.2.1)(hl:s.2.2.length<100000):∃s':Int×Int×List Int,zH c b (k:Int) s=.ok s'/\0<=s'.2.1/\∃v,0<=v/\v<b/\s'.2.2=s.2.2++[v]:=by
 unfold zH;have hm0:=E5 (s.1*48271+7919+(k:Int)) (show(2147483647:Int)≠0 by decide);have hm1:=DT (s.1*48271+7919+(k:Int)) (show(0:Int)<2147483647 by decide);generalize (s.1*48271+7919+(k:Int))%2147483647=mx at*
 have other:∀z:Int,0<=z%b/\z%b<b:=fun z=>⟨E5 _ (by omega),DT _ (by omega)⟩
 have A:∀z:Int,iC s.2.2 z=.ok (s.2.2++[z]):=fun z=>gy hl;have e2:((((jA mx mx).bind fun y63=>CK<|y63%1000003).bind fun y64=>kO y64 b).bind fun y69=>iC s.2.2 y69)=.ok (s.2.2++[mx*mx%1000003%b]):=by
  rw[jN (by omega) (by omega)];simp only[CC];rw[i5 (by omega)];exact A _
 have e1:((kO s.2.1 b).bind fun y56=>iC s.2.2 y56)=.ok (s.2.2++[s.2.1%b]):=by rw[i5 (by omega)];exact A _
 by_cases hf:(1000000000000000000:Int)<=eE c
 ·rw[decide_eq_true hf];by_cases hp:0<s.2.1
  ·rw[decide_eq_true hp];simp only[if_true,CC,e1,nr (show 0<b by omega) hb2];exact⟨_,rfl,Int.ediv_nonneg h1 (by omega),_,(other _).1,(other _).2,rfl⟩
  ·rw[decide_eq_false hp];simp only[if_true,CC,Dm,if_false,e2];exact⟨_,rfl,h1,_,(other _).1,(other _).2,rfl⟩
 ·rw[decide_eq_false hf];simp only[CC,Dm,if_false,e2];exact⟨_,rfl,h1,_,(other _).1,(other _).2,rfl⟩
theorem pA(c:Int)(n:Nat)(b:Int)(hn:n<=1000)(hb:1<=b)(hb2:b<1073741824):∃ns,kH c (n:Int) b=.ok ns/\ns.length=n/\∀x∈ns,0<=x/\x<b:=by
 unfold kH AS;rw[lq (by omega),CC];obtain⟨s,e,h0,hl,hb⟩:=cU (f:=zH c b) (fun pre(s:Int×Int×List Int)=>0<=s.2.1/\s.2.2.length=pre.length/\∀x∈s.2.2,0<=x/\x<b) ((DP n).map fun(i:Nat)=>(i:Int)) ((eE c)%2147483647,eE c,[]) ⟨wu c,rfl,by simp⟩ (by
  intro pre a post s e ⟨h0,hl,hb'⟩;have hlen:pre.length<n:=by have:=congrArg FP e;simp at this;omega
  obtain⟨k,rfl⟩:∃k:Nat,a=(k:Int):=by
   have:a∈(DP n).map fun(i:Nat)=>(i:Int):=by rw[e];simp
   obtain⟨k,_,hk⟩:=DU.mp this;exact⟨k,hk.symm⟩
  obtain⟨s',e',h0',v,v0,v1,ev⟩:=zg c b hb hb2 k s h0 (by omega);refine⟨s',e',h0',by rw[ev];simp[hl],fun x hx=>?_⟩;rw[ev]at hx;rcases Ff.mp hx with z|z;·exact hb' x z
  ·rw[FY.mp z];exact⟨v0,v1⟩)
 rw[e];exact⟨_,rfl,by rw[hl];simp,hb⟩
def isTurn(c:Nat):Prop:=c=102\/c=98\/c=105
instance zkeep71(c:Nat):Decidable (isTurn c):=by unfold isTurn;infer_instance
def dH(t:Tx):Prop:=∀c∈t,isTurn c
structure Card(t:Cd):Prop where
 lay:t.1=[83]\/t.1=[90]
 four:t.2.1.length=4
 col:∀c∈t.2.1,97<=c/\c<=122
 low:0<=t.2.2
 high:t.2.2<4
theorem vn(sz:Int)(ds:List Int)(hsz:1<=sz)(hd:ds.length=5)(a:Int)(t:Tx)(ht:t.length<1000):∃c,97<=c/\c<=122/\zI sz ds a t=.ok (t++[c]):=by
 unfold zI;obtain⟨x,e,_⟩:=mj (xs:=ds) (i:=4) (by decide) (by rw[hd];decide);rw[e];simp only[CC,i5 (show 0<sz by omega)];have h0:=E5 (x+a%sz*7) (show(26:Int)≠0 by decide);have h1:=DT (x+a%sz*7) (show(0:Int)<26 by decide);generalize (x+a%sz*7)%26=r at h0 h1;obtain⟨c,e2,h2⟩:=i6 (x:=([97,98,99,100,101,102,103,104,105,106,107,108,109,110,111,112,113,114,115,116,117,118,119,120,121,122]:Tx)) (i:=r) h0 (by simp;omega) (by decide);rw[e2];simp only[CC,dX (show t.length+[c].length<=100000 by simp;omega)];have hc:c∈([97,98,99,100,101,102,103,104,105,106,107,108,109,110,111,112,113,114,115,116,117,118,119,120,121,122]:Tx):=Dh h2;have:∀c∈([97,98,99,100,101,102,103,104,105,106,107,108,109,110,111,112,113,114,115,116,117,118,119,120,121,122]:Tx),97<=c/\c<=122:=by decide
 exact⟨c,(this c hc).1,(this c hc).2,rfl⟩
theorem vo(c:Int):∃t,x4 c=.ok t/\t.length=4/\∀x∈t,97<=x/\x<=122:=by
 unfold x4 AU;have h0:=E5 c (show(5:Int)≠0 by decide);have h1:=DT c (show(0:Int)<5 by decide);obtain⟨sz,e,h2⟩:=mj (xs:=[(1:Int),2,3,4,26]) (i:=c%5) h0 (by simp;omega);have hsz:1<=sz:=by
  have:∀x∈[(1:Int),2,3,4,26],1<=x:=by decide
  exact this sz<|Dh h2
 rw[e,CC];obtain⟨ds,e2,hd,_⟩:=pA (c/5) 5 26 (by decide) (by decide) (by decide);rw[show kH (c/5) 5 26=CK ds from e2,CC,show cut ds none (some 4)=ds.take 4 from ny ds 4];obtain⟨t,e3,h3,h4⟩:=cU (f:=zI sz ds) (fun pre t=>t.length=pre.length/\∀x∈t,97<=x/\x<=122) (ds.take 4) [] ⟨rfl,by simp⟩ (by
  intro pre a post t e ⟨hl,hb⟩;have hlen:pre.length<5:=by have:=congrArg FP e;simp at this;omega
  obtain⟨c,c0,c1,ec⟩:=vn sz ds hsz hd a t (by omega);refine⟨_,ec,by simp[hl],fun x hx=>?_⟩;rcases Ff.mp hx with z|z;·exact hb x z
  ·rw[FY.mp z];exact⟨c0,c1⟩)
 rw[e3];exact⟨t,rfl,by rw[h3,GX];omega,h4⟩
theorem qL(c:Int):∃t,vR c=.ok t/\Card t:=by
 unfold vR AW;have h0:=E5 c (show(2:Int)≠0 by decide);have h1:=DT c (show(0:Int)<2 by decide);obtain⟨y,e,h2⟩:=i6 (x:=([83,90]:Tx)) (i:=c%2) h0 (by simp;omega) (by decide);obtain⟨t,e2,hl,hb⟩:=vo<|c/8;rw[e,CC,e2,CC];refine⟨_,rfl,?_,hl,hb,E5 _ (by decide),DT _ (by decide)⟩;have:y=83\/y=90:=by simpa using Dh h2
 rcases this with rfl|rfl;·exact .inl rfl
 ·exact .inr rfl
theorem vp(d:Int)(h0:0<=d)(h1:d<3):∃c,fS ([102,98,105]:Tx) d=.ok [c]/\isTurn c:=by
 obtain⟨c,e,h⟩:=i6 (x:=([102,98,105]:Tx)) (i:=d) h0 (by simp;omega) (by decide);refine⟨c,e,?_⟩;have:=Dh h;simpa [isTurn] using this
theorem vq(c:Int)(n:Nat)(hn:n<=1000):∃t,x5 c (n:Int)=.ok t/\t.length=n/\dH t:=by
 unfold x5 AX;by_cases h:c%7=3
 ·rw[if_pos (by simpa using h)];obtain⟨y,e,hy⟩:=vp (c/7%3) (E5 _ (by decide)) (DT _ (by decide));rw[e,CC,wt (by omega) (by omega)];refine⟨_,rfl,by simp,fun x hx=>?_⟩;rw[List.eq_of_mem_replicate hx];exact hy
 ·rw[if_neg (by simpa using h)];obtain⟨ds,e,hl,hb⟩:=pA (c/7) n 3 hn (by decide) (by decide);rw[e,CC];have key:∃t:List Nat,fb ds (fun(a9:Int)=>fS ([102,98,105]:Tx) a9)=.ok (t.map fun c=>[c])/\t.length=n/\dH t:=by
   have:∀d∈ds,∃c:Nat,fS ([102,98,105]:Tx) d=.ok [c]/\isTurn c:=fun d hd=>vp d (hb d hd).1 (hb d hd).2;have hf:∀d∈ds,fS ([102,98,105]:Tx) d=.ok ((fun d=>[if d=0 then 102 else if d=1 then 98 else 105]) d):=fun d hd=>by
    have h1:=hb d hd;have:d=0\/d=1\/d=2:=by omega
    rcases this with rfl|rfl|rfl<;>rfl
   rw[fc (by show ds.length<=100000;omega) hf];refine⟨ds.map fun d=>if d=0 then 102 else if d=1 then 98 else 105,by simp,by simp[hl],fun x hx=>?_⟩;obtain⟨d,_,rfl⟩:=DU.mp hx;unfold isTurn;split;·exact .inl rfl
   ·split;·exact .inr<|.inl rfl
    ·exact .inr<|.inr rfl
  obtain⟨t,e2,hl2,ht⟩:=key;rw[e2,CC,nt (by rw[qg];omega),qg];exact⟨t,rfl,hl2,ht⟩
def go(c:Nat):Int:=if c=102 then 1 else if c=98 then -1 else 0
def tw(t:Cd)(c:Nat):Int:=if t.1=[83]then go c else -go c
def dJ(t:Cd)(i:Int):Nat:=t.2.1[i.toNat]?.getD 0
def nU(i:Int):Nat:=if i=1 then 115 else if i= -1 then 122 else 111
def behind(t:Cd)(c:Nat):Cd:=(t.1,t.2.1,(t.2.2+go c)%4)
def place(t:Cd)(c:Nat):Pl:=([dJ t t.2.2],[dJ t ((t.2.2+2)%4)],[nU (tw t c)])
theorem AJ(c:Nat): -1<=go c/\go c<=1:=by unfold go;split;omega;split<;>omega
theorem yb(t:Cd)(c:Nat): -1<=tw t c/\tw t c<=1:=by have:=AJ c;unfold tw;split<;>omega
theorem Card.behind{t:Cd}(h:Card t)(c:Nat):Card (behind t c):=⟨h.lay,h.four,h.col,E5 _ (by decide),DT _ (by decide)⟩
theorem yc{c:Nat}(h:isTurn c):oj [c]=.ok (go c):=by
 unfold oj AY;rcases h with rfl|rfl|rfl<;>rfl
theorem lF{t:Cd}{c:Nat}(h:isTurn c):jh t [c]=.ok (behind t c):=by
 unfold jh AZ;rw[yc h];rfl
theorem nV{t:Cd}{c:Nat}(h:isTurn c):j6 t [c]=.ok (tw t c):=by
 unfold j6 B1;rw[yc h];by_cases z:t.1=[83]
 ·rw[if_pos (by simpa using z)];unfold tw;rw[if_pos z]
 ·rw[if_neg (by simpa using z)];unfold tw;rw[if_neg z];simp only[CC];congr 1;omega
theorem dZ{t:Cd}(h:Card t){i:Int}(h0:0<=i)(h1:i<4):fS t.2.1 i=.ok [dJ t i]:=yJ h0 (by rw[h.four];exact h1) (by rw[h.four];decide)
theorem fF(i:Int):0<=i%4/\i%4<4:=⟨E5 _ (by decide),DT _ (by decide)⟩
theorem zh{i:Int}(h: -1<=i/\i<=1):fS ([122,111,115]:Tx) (i+1)=.ok [nU i]:=by
 have:i= -1\/i=0\/i=1:=by omega
 rcases this with rfl|rfl|rfl<;>rfl
def dw:Cd->Tx->List Pl
 |_,[]=>[]
 |t,c::r=>place (behind t c) c::dw (behind t c) r
def ends:Cd->Tx->Cd
 |t,[]=>t
 |t,c::r=>ends (behind t c) r
theorem pC(t:Cd)(x:Tx):(dw t x).length=x.length:=by
 induction x generalizing t with
 |nil=>rfl
 |cons c r ih=>simp[dw,ih]
theorem vt(x:Tx):∀(t:Cd)(c:Nat),ends t (x++[c])=behind (ends t x) c:=by
 induction x with
 |nil=>intro t c;rfl
 |cons d r ih=>intro t c;simp[ends,ih]
theorem Card.ends{t:Cd}(h:Card t)(x:Tx):Card (ends t x):=by
 induction x generalizing t with
 |nil=>exact h
 |cons c r ih=>exact ih<|h.behind c
theorem sq{t:Cd}(h:Card t){c:Nat}(hc:isTurn c){out:List Pl}(ho:out.length<100000):zJ jh j6 [c] (t,out)=.ok (behind t c,out++[place (behind t c) c]):=by
 unfold zJ;have hb:=h.behind c;simp only[lF hc,CC,nV hc,zh<|yb _ _,dZ hb hb.low hb.high,dZ hb (fF _).1 (fF _).2];rw[gy ho];rfl
theorem lG{t:Cd}(h:Card t){x:Tx}(hx:dH x)(hl:x.length<=10000):pb t x=.ok (dw t x):=by
 unfold pb B2;have key:∀(x:Tx)(t:Cd)(out:List Pl),Card t->dH x->out.length+x.length<=10000->bR (zJ jh j6) (bH x) (t,out)=.ok (ends t x,out++dw t x):=by
  intro x
  induction x with
  |nil=>intro t out _ _ _;simp[bH,bR,ends,dw]
  |cons c r ih=>
   intro t out h hx hl;simp only[El]at hl;show bR _ ([c]::bH r) _=_;unfold bR;rw[sq h (hx c (by simp)) (by omega),CC,ih _ _ (h.behind c) (fun d hd=>hx d (by simp[hd])) (by simp;omega)];simp[ends,dw]
 rw[key x t [] h hx (by simpa using hl)];simp
def isCol(c:Nat):Prop:=97<=c/\c<=122
def isSl(c:Nat):Prop:=c=115\/c=122\/c=111
structure Mark(m:Pl):Prop where
 a:∃c,m.1=[c]/\(isCol c\/c=63)
 b:∃c,m.2.1=[c]/\(isCol c\/c=63)
 s:∃c,m.2.2=[c]/\(isSl c\/c=63)
structure Whole(m:Pl):Prop where
 a:∃c,m.1=[c]/\isCol c
 b:∃c,m.2.1=[c]/\isCol c
 s:∃c,m.2.2=[c]/\isSl c
theorem nW{t:Cd}(h:Card t){i:Int}(h0:0<=i)(h1:i<4):isCol (dJ t i):=by
 unfold dJ;have:i.toNat<t.2.1.length:=by rw[h.four];omega
 simp only[CJ this,GY];exact h.col _<|FL this
theorem vw(i:Int):isSl (nU i):=by unfold nU isSl;split;exact .inl rfl;split;exact .inr<|.inl rfl;exact .inr<|.inr rfl
theorem nX{t:Cd}(h:Card t)(c:Nat):Whole (place t c):=⟨⟨_,rfl,nW h h.low h.high⟩,⟨_,rfl,nW h (fF _).1 (fF _).2⟩,⟨_,rfl,vw _⟩⟩
theorem mC{t:Cd}(h:Card t)(x:Tx):∀m∈dw t x,Whole m:=by
 induction x generalizing t with
 |nil=>intro m hm;simp[dw]at hm
 |cons c r ih=>
  intro m hm;rcases CW.mp hm with rfl|hm
  ·exact nX (h.behind c) c
  ·exact ih (h.behind c) m hm
theorem nY{c:Nat}(h:isCol c):∃j d,isCol d/\j5 ([97,98,99,100,101,102,103,104,105,106,107,108,109,110,111,112,113,114,115,116,117,118,119,120,121,122,97]:Tx) [c]=.ok j/\fS ([97,98,99,100,101,102,103,104,105,106,107,108,109,110,111,112,113,114,115,116,117,118,119,120,121,122,97]:Tx) (j+1)=.ok [d]:=by
 have key:∀k:Fin 26,(match j5 ([97,98,99,100,101,102,103,104,105,106,107,108,109,110,111,112,113,114,115,116,117,118,119,120,121,122,97]:Tx) [97+k.1]with| .ok j=>(match fS ([97,98,99,100,101,102,103,104,105,106,107,108,109,110,111,112,113,114,115,116,117,118,119,120,121,122,97]:Tx) (j+1)with| .ok [d]=>decide (97<=d/\d<=122)|_=>false)|_=>false)=true:=by decide
 obtain⟨k,rfl⟩:∃k:Fin 26,c=97+k.1:=⟨⟨c-97,by have:=h.1;have:=h.2;omega⟩,by have:=h.1;show c=97+(c-97);omega⟩
 have:=key k;split at this
 ·rename_i j e;split at this
  ·rename_i d e2;exact⟨j,d,by simpa [isCol] using this,e,e2⟩
  ·cases this
 ·cases this
theorem xr{c:Nat}(h:isSl c):∃j d,isSl d/\j5 ([115,122,111]:Tx) [c]=.ok j/\fS ([122,111,115]:Tx) j=.ok [d]:=by
 rcases h with rfl|rfl|rfl;·exact⟨0,122,.inr<|.inl rfl,rfl,rfl⟩
 ·exact⟨1,111,.inr<|.inr rfl,rfl,rfl⟩
 ·exact⟨2,115,.inl rfl,rfl,rfl⟩
def xt(l:List Tx):Prop:=∃a b c,l=[[a],[b],[c]]/\isCol a/\isCol b/\isSl c
theorem vz(cell:Int){p:Pl}(hp:Whole p){d:Int}(h0:0<=d)(h1:d<64){out:List Pl}(ho:out.length<1000):(zK cell (p,d) out).Ok fun r=>∃m,Mark m/\r=out++[m]:=by
 unfold zK;obtain⟨⟨a,ea,ha⟩,⟨b,eb,hb⟩,⟨s,es,hs⟩⟩:=hp;simp only[ea,eb,es];refine qh (Hc (P:=fun d'=>0<=d'/\d'<64) (vP (fun _=>okR ⟨by omega,by omega⟩) fun _=>okR ⟨h0,h1⟩) fun d1 hd1=>?_);refine qh (Hc (P:=fun d'=>0<=d'/\d'<64) (vP (fun _=>okR ⟨by omega,by omega⟩) fun _=>okR hd1) fun d2 hd2=>?_);have hm0:=E5 d2 (show(3:Int)≠0 by decide);have hm1:=DT d2 (show(0:Int)<3 by decide);have step1:((if(decide<|(56:Int)<=d2)then CK (decide<|(d2%3)<(2:Int))else CK false).bind fun y90=>(if y90 then(((((fA [[a],[b],[s]]<|d2%3).bind fun y101=>j5 ([97,98,99,100,101,102,103,104,105,106,107,108,109,110,111,112,113,114,115,116,117,118,119,120,121,122,97]:Tx) y101).bind fun y102=>CK<|y102+(1:Int)).bind fun y103=>fS ([97,98,99,100,101,102,103,104,105,106,107,108,109,110,111,112,113,114,115,116,117,118,119,120,121,122,97]:Tx) y103).bind fun y107=>n6 [[a],[b],[s]] (d2%3) y107).bind fun y108=>CK y108 else CK [[a],[b],[s]]:Res (List Tx))).Ok xt:=by
  have dflt:xt [[a],[b],[s]]:=⟨a,b,s,rfl,ha,hb,hs⟩
  refine qh<|vP (fun _=>okR ?_) fun _=>okR dflt;refine vP (fun h2=>?_) fun _=>okR dflt;generalize d2%3=r at*
  have:r=0\/r=1:=by omega
  rcases this with rfl|rfl
  ·obtain⟨j,d,hd,e1,e2⟩:=nY ha;simp only[show fA [[a],[b],[s]] 0=CK [a]from rfl,CC,e1,e2,show n6 [[a],[b],[s]] 0 [d]=CK [[d],[b],[s]]from rfl];exact okR ⟨d,b,s,rfl,hd,hb,hs⟩
  ·obtain⟨j,d,hd,e1,e2⟩:=nY hb;simp only[show fA [[a],[b],[s]] 1=CK [b]from rfl,CC,e1,e2,show n6 [[a],[b],[s]] 1 [d]=CK [[a],[d],[s]]from rfl];exact okR ⟨a,d,s,rfl,ha,hd,hs⟩
 refine qh<|step1.imp fun l1 ht=>?_;obtain⟨a,b,s,rfl,ha,hb,hs⟩:=ht;have step2:((if(decide<|(56:Int)<=d2)then CK (decide<|(d2%3)=(2:Int))else CK false).bind fun y120=>(if y120 then((((fA [[a],[b],[s]] (2:Int)).bind fun y127=>j5 ([115,122,111]:Tx) y127).bind fun y128=>fS ([122,111,115]:Tx) y128).bind fun y132=>n6 [[a],[b],[s]] (2:Int) y132).bind fun y133=>CK y133 else CK [[a],[b],[s]]:Res (List Tx))).Ok xt:=by
  have dflt:xt [[a],[b],[s]]:=⟨a,b,s,rfl,ha,hb,hs⟩
  refine qh<|vP (fun _=>okR ?_) fun _=>okR dflt;refine vP (fun h2=>?_) fun _=>okR dflt;obtain⟨j,d,hd,e1,e2⟩:=xr hs;simp only[show fA [[a],[b],[s]] 2=CK [s]from rfl,CC,e1,e2,show n6 [[a],[b],[s]] 2 [d]=CK [[a],[b],[d]]from rfl];exact okR ⟨a,b,d,rfl,ha,hb,hd⟩
 refine qh<|step2.imp fun l2 ht=>?_;obtain⟨a,b,s,rfl,ha,hb,hs⟩:=ht;have cell1:∀(x:Nat)(k:Int),0<k->k<10->∃y,((((jB d2 k).bind fun y158=>CK<|y158%2).bind fun y159=>CK<|decide<|y159=(1:Int)).bind fun y160=>if y160 then CK [x]else CK ([63]:Tx))=.ok [y]/\(y=x\/y=63):=fun x k k0 k1=>by
  rw[nr k0 (by omega)];simp only[CC];by_cases h:d2/k%2=1;·rw[if_pos (by simpa using h)];exact⟨x,rfl,.inl rfl⟩
  ·rw[if_neg (by simpa using h)];exact⟨63,rfl,.inr rfl⟩
 obtain⟨x,ex,hx⟩:=cell1 a 1 (by decide) (by decide);obtain⟨y,ey,hy⟩:=cell1 b 2 (by decide) (by decide);obtain⟨z,ez,hz⟩:=cell1 s 4 (by decide) (by decide);have ec:fb ([[a],[b],[s]].zip [(1:Int),2,4]) (fun(a149:Tx×Int)=>(((jB d2 a149.2).bind fun y158=>CK<|y158%2).bind fun y159=>CK<|decide<|y159=(1:Int)).bind fun y160=>if y160 then CK a149.1 else CK ([63]:Tx))=.ok [[x],[y],[z]]:=by
  unfold fb;rw[bq (show([[a],[b],[s]].zip [(1:Int),2,4]).length<=cap from(by show 3<=100000;decide)),CC];show jC _ [([a],(1:Int)),([b],2),([s],4)]=_;simp only[jC,ex,ey,ez,CC]
 simp only[ec,CC,yD,gy (show out.length<100000 by omega)];refine⟨_,⟨⟨x,rfl,?_⟩,⟨y,rfl,?_⟩,⟨z,rfl,?_⟩⟩,rfl⟩
 ·rcases hx with rfl | rfl;·exact .inl ha
  ·exact .inr rfl
 ·rcases hy with rfl | rfl;·exact .inl hb
  ·exact .inr rfl
 ·rcases hz with rfl | rfl;·exact .inl hs
  ·exact .inr rfl
def vA(n:Nat)(l:List Pl):Prop:=l.length=n/\∀m∈l,Mark m
theorem mD{α β:Type}{xs:List α}{ys:List β}{p:α×β}(h:p∈xs.zip ys):p.1∈xs/\p.2∈ys:=⟨(FZ h).1,(FZ h).2⟩
theorem vB{ps:List Pl}(hp:∀p∈ps,Whole p)(hl:ps.length<=900)(cell:Int)(lies:Bool):(x6 ps cell lies).Ok (vA ps.length):=by
 unfold x6 B3;have e0:∃b:Int,((jA (8:Int) (if lies then(1:Int)else 0)).bind fun y9=>CK<|(56:Int)+y9)=.ok b/\56<=b/\b<=64:=by
  cases lies;·exact⟨56,rfl,by decide,by decide⟩
  ·exact⟨64,rfl,by decide,by decide⟩
 obtain⟨b,eb,hb0,hb1⟩:=e0;rw[eb,CC];obtain⟨ns,en,hn,hns⟩:=pA (cell/5) ps.length b (by omega) (by omega) (by omega);rw[en,CC];obtain⟨r,er,hr⟩:=cU (f:=zK cell) (fun pre r=>vA pre.length r) (ps.zip ns) [] ⟨rfl,by simp⟩ (by
  intro pre a post s e ⟨h1,h2⟩;have ha:a∈ps.zip ns:=by rw[e];simp
  have hlen:pre.length<900:=by have:=congrArg FP e;simp[Gp,hn]at this;omega
  obtain⟨r,er,m,hm,rfl⟩:=(vz cell (hp _ (mD ha).1) (hns _ (mD ha).2).1 (by have:=(hns _ (mD ha).2).2;omega) (out:=s) (by omega)).ex;refine⟨_,er,by simp[h1],fun x hx=>?_⟩;rcases Ff.mp hx with z|z;·exact h2 x z
  ·rw[FY.mp z];exact hm)
 rw[er];refine⟨by rw[hr.1,Gp,hn];omega,hr.2⟩
def qM(t:Cd):Cd:=(if t.1=[83]then [90]else [83],[dJ t 0,dJ t 3,dJ t 2,dJ t 1],(0-t.2.2)%4)
def pD(c:Nat):Nat:=if c=102 then 98 else if c=98 then 102 else c
def qN(t:Cd)(k:Int):Cd:=(t.1,[dJ t ((0-k)%4),dJ t<|(1-k)%4,dJ t<|(2-k)%4,dJ t<|(3-k)%4],(t.2.2+k)%4)
theorem nZ{t:Cd}(h:Card t):x8 t=.ok (qM t):=by
 unfold x8 B4;have e1:((j5 ([83,90]:Tx) t.1).bind fun y5=>fS ([90,83]:Tx) y5)=.ok (if t.1=[83]then [90]else [83]):=by
  rcases h.lay with e|e<;>rw[e]<;>rfl
 rw[e1];simp only[CC,dZ h (show(0:Int)<=0 by decide) (by decide),dZ h (show(0:Int)<=3 by decide) (by decide),dZ h (show(0:Int)<=2 by decide) (by decide),dZ h (show(0:Int)<=1 by decide) (by decide)];rfl
theorem vC{t:Cd}(h:Card t){x:Tx}(e:∀c∈x,∃i:Int,0<=i/\i<4/\c=dJ t i):∀c∈x,97<=c/\c<=122:=fun c hc=>by
 obtain⟨i,h0,h1,rfl⟩:=e c hc;unfold dJ;have:i.toNat<t.2.1.length:=by rw[h.four];omega
 simp only[CJ this,GY];exact h.col _<|FL this
theorem Card.flip{t:Cd}(h:Card t):Card (qM t):=by
 refine⟨?_,rfl,vC h fun c hc=>?_,(fF _).1,(fF _).2⟩
 ·unfold qM;split;·exact .inr rfl
  ·exact .inl rfl
 ·have:c=dJ t 0\/c=dJ t 3\/c=dJ t 2\/c=dJ t 1:=by simpa [qM] using hc
  rcases this with rfl|rfl|rfl|rfl;·exact⟨0,by decide,by decide,rfl⟩
  ·exact⟨3,by decide,by decide,rfl⟩
  ·exact⟨2,by decide,by decide,rfl⟩
  ·exact⟨1,by decide,by decide,rfl⟩
theorem Card.roll{t:Cd}(h:Card t)(k:Int):Card (qN t k):=by
 refine⟨h.lay,rfl,vC h fun c hc=>?_,(fF _).1,(fF _).2⟩;have:c=dJ t ((0-k)%4)\/c=dJ t ((1-k)%4)\/c=dJ t ((2-k)%4)\/c=dJ t ((3-k)%4):=by simpa [qN] using hc
 rcases this with rfl|rfl|rfl|rfl<;>exact⟨_,(fF _).1,(fF _).2,rfl⟩
theorem xu{t:Cd}(h:Card t)(k:Int):xa t k=.ok (qN t k):=by
 unfold xa B6;rw[show fC (4:Int)=CK [(0:Int),1,2,3]from rfl,CC];rw[fc (g:=fun i:Int=>[dJ t ((i-k)%4)]) (by decide)<|fun i _=>dZ h (fF _).1 (fF _).2];rfl
theorem vD{c:Nat}(h:isTurn c):isTurn (pD c):=by
 unfold pD;rcases h with rfl|rfl|rfl
 ·exact .inr<|.inl rfl
 ·exact .inl rfl
 ·exact .inr<|.inr rfl
theorem xv{x:Tx}(h:dH x)(hl:x.length<=10000):x9 x=.ok (x.map pD):=by
 unfold x9 B5;rw[fc (g:=fun t:Tx=>[pD (t.headD 0)]) (by show(bH x).length<=100000;simp[bH];omega) (fun t ht=>by
  obtain⟨c,hc,rfl⟩:=eg ht;rcases h c hc with rfl|rfl|rfl<;>rfl),CC]
 have e:((bH x).map fun t:Tx=>[pD (t.headD 0)])=(x.map pD).map fun c=>[c]:=by simp[bH]
 rw[e,nt (by rw[qg];simp;omega),qg]
theorem pE{x:Tx}(h:dH x):dH (x.map pD):=fun c hc=>by
 obtain⟨d,hd,rfl⟩:=DU.mp hc;exact vD<|h d hd
theorem qO(i:Int)(l:List Int)(hl:l.length<1000):∃l',zL i l=.ok l'/\(∀x,x∈l'↔x∈l\/x=i)/\(l.Nodup->l'.Nodup)/\l'.length<=l.length+1:=by
 unfold zL;by_cases h:i∈l
 ·refine⟨l,?_,fun x=>⟨.inl,fun z=>z.elim id fun e=>e▸h⟩,id,by omega⟩;rw[if_neg (by simp[h])];rfl
 ·refine⟨l++ [i],?_,fun x=>by simp,fun hn=>?_,by simp⟩;·rw[if_pos (by simp[h]),gy (by omega)];rfl
  ·rw[Kv];exact⟨hn,by simp,fun a ha b hb=>by simp at hb;subst hb;intro e;subst e;exact h ha⟩
def yd(t:Cd)(x:Tx)(i:Int):Prop:=∃k,0<k/\k<=x.length/\(i=(ends t<|x.take k).2.2\/i=((ends t<|x.take k).2.2+2)%4)
theorem xw{t:Cd}(h:Card t){x:Tx}(hx:dH x)(hl:x.length<=900):∃l,xb t x=.ok l/\l.Pairwise (· <= ·)/\l.Nodup/\(∀i∈l,0<=i/\i<4)/\∀i,i∈l↔yd t x i:=by
 unfold xb B7;obtain⟨s,e,h1,h2,h3,h4⟩:=cU (f:=AD jh) (fun pre(s:Cd×List Int)=>s.1=ends t (x.take pre.length)/\s.2.Nodup/\(∀i∈s.2,0<=i/\i<4)/\∀i,i∈s.2↔∃k,0<k/\k<=pre.length/\(i=(ends t<|x.take k).2.2\/i=((ends t<|x.take k).2.2+2)%4)) (bH x) (t,[])
  ⟨by simp[ends],by simp,by simp,fun i=>⟨fun z=>by simp at z,fun⟨k,a,b,_⟩=>by simp at b;omega⟩⟩ (by
  intro pre a post s e ⟨h1,h2,h3,h4⟩;have ha:a∈bH x:=by rw[e];simp
  obtain⟨c,hc,rfl⟩:=eg ha;have hlen:pre.length<x.length:=by have:=congrArg FP e;simp[bH]at this;omega
  have hget:x[pre.length]? =some c:=by
   have:=congrArg (fun l=>l[pre.length]?) e;simp only[bH,CQ,Dg<|CU _,IU,EL]at this;cases z:x[pre.length]? with
   |none=>rw[z]at this;cases this
   |some d=>rw[z]at this;simp at this;rw[this]
  have htake:x.take (pre.length+1)=x.take pre.length++[c]:=by
   rw[List.take_add_one,hget];rfl
  have small:s.2.length<=4:=by
   have hsub:s.2 ⊆ [(0:Int),1,2,3]:=fun i hi=>by
    have:=h3 i hi;have:i=0\/i=1\/i=2\/i=3:=by omega
    simpa using this
   exact(Hb h2 hsub)
  unfold AD;rw[h1,lF<|hx c hc,CC];have hB:Card (behind (ends t<|x.take pre.length) c):=(h.ends _).behind c;generalize hbe:behind (ends t<|x.take pre.length) c=B at hB ⊢;obtain⟨l1,e1,m1,n1,k1⟩:=qO B.2.2 s.2 (by omega);obtain⟨l2,e2,m2,n2,k2⟩:=qO ((B.2.2+2)%4) l1 (by omega);have el:bR zL [B.2.2,(B.2.2+2)%4] s.2=.ok l2:=by simp only[bR,e1,e2,CC]
  rw[el];have hE:ends t (x.take<|pre.length+1)=B:=by rw[htake,vt,hbe]
  refine⟨(B,l2),rfl,by simp[hE],n2<|n1 h2,fun i hi=>?_,fun i=>?_⟩
  ·rcases (m2 i).mp hi with z | z
   ·rcases (m1 i).mp z with z | z;·exact h3 i z
    ·rw[z];exact⟨hB.low,hB.high⟩
   ·rw[z];exact fF _
  ·rw[m2,m1,h4];constructor
   ·rintro ((⟨k,a,b,z⟩ | z) | z);·exact⟨k,a,by simp;omega,z⟩
    ·exact⟨pre.length+1,by omega,by simp,.inl (by rw[hE];exact z)⟩
    ·exact⟨pre.length+1,by omega,by simp,.inr (by rw[hE];exact z)⟩
   ·rintro ⟨k,a,b,z⟩;simp at b;rcases Mh k (pre.length+1)with q|q;·exact .inl (.inl ⟨k,a,by omega,z⟩)
    ·have:k=pre.length+1:=by omega
     subst this;rw[hE]at z;rcases z with z|z
     ·exact .inl (.inr z)
     ·exact .inr z)
 rw[e,CC];have hsub:s.2 ⊆ [(0:Int),1,2,3]:=fun i hi=>by
  have:=h3 i hi;have:i=0\/i=1\/i=2\/i=3:=by omega
  simpa using this
 have small:=(Hb h2 hsub)
 simp only[El,Gq]at small;rw[u6 (by omega)];have pm:=iS s.2;refine⟨_,rfl,lh _,pm.nodup_iff.mpr h2,fun i hi=>h3 i<|pm.mem_iff.mp hi,fun i=>?_⟩;rw[pm.mem_iff,h4];unfold yd;simp[bH]
theorem zj(d:Int)(h0:0<=d)(h1:d<26):∃c,fS ([97,98,99,100,101,102,103,104,105,106,107,108,109,110,111,112,113,114,115,116,117,118,119,120,121,122]:Tx) d=.ok [c]/\97<=c/\c<=122:=by
 obtain⟨c,e,h⟩:=i6 (x:=([97,98,99,100,101,102,103,104,105,106,107,108,109,110,111,112,113,114,115,116,117,118,119,120,121,122]:Tx)) (i:=d) h0 (by simp;omega) (by decide);have:∀c∈([97,98,99,100,101,102,103,104,105,106,107,108,109,110,111,112,113,114,115,116,117,118,119,120,121,122]:Tx),97<=c/\c<=122:=by decide
 exact⟨c,e,this c<|Dh h⟩
def xx(t:Cd)(i:Nat)(c:Nat):Cd:=(t.1,t.2.1.set i c,t.2.2)
theorem Card.dye{t:Cd}(h:Card t)(i:Nat){c:Nat}(h0:97<=c)(h1:c<=122):Card (xx t i c):=⟨h.lay,by simp[xx,h.four],fun x hx=>by
 rcases List.mem_or_eq_of_mem_set hx with z|z;·exact h.col x z
 ·rw[z];exact⟨h0,h1⟩,h.low,h.high⟩
theorem xy{x:Tx}{i c:Nat}(h:i<x.length):x.take i++[c]++x.drop (i+1)=x.set i c:=by
 rw[List.set_eq_take_append_cons_drop,if_pos h];simp
theorem zk{t:Cd}(h:Card t){i:Nat}(hi:i<4)(c:Nat):((((rn t.2.1 none<|some (i:Int)).bind fun y83=>fB y83 [c]).bind fun y84=>(rn t.2.1 (some<|(i:Int)+(1:Int)) none).bind fun y85=>fB y84 y85).bind fun y86=>CK (t.1,y86,t.2.2))=.ok (xx t i c):=by
 have hl:t.2.1.length<=100000:=by rw[h.four];decide
 rw[qf hl,ny,CC,dX (by simp;have:=h.four;omega),CC,show(i:Int)+1=((i+1:Nat):Int)from rfl,qf hl,u7,CC,dX (by simp;have:=h.four;omega),CC,xy (by rw[h.four];exact hi)];rfl
theorem zl(cell:Int)(l:List Int){t:Cd}(h:Card t){i:Nat}(hi:i<4):∃t',zM cell l (i:Int) t=.ok t'/\Card t'/\(t'=t\/((i:Int)∉l/\∃c,t'=xx t i c)):=by
 unfold zM;by_cases z:(i:Int)∈l;·rw[if_neg (by simp[z])];exact⟨t,rfl,h,.inl rfl⟩
 ·rw[if_pos (by simp[z]),jN (by omega) (by omega)];simp only[CC];obtain⟨c,e,h0,h1⟩:=zj ((cell/16+5*(i:Int))%26) (E5 _ (by decide)) (DT _ (by decide));rw[e];simp only[CC];have:=zk h hi c;rw[this];exact⟨_,rfl,h.dye i h0 h1,.inr ⟨z,c,rfl⟩⟩
theorem zm{t:Cd}(h:Card t){x:Tx}(hx:dH x)(hl:x.length<=900)(cell:Int):(xc t x cell).Ok fun r=>Card r.1/\dH r.2/\r.2.length=x.length:=by
 unfold xc B8;refine qh<|Hc (P:=fun r:Cd×Tx=>Card r.1/\dH r.2/\r.2.length=x.length) (vP (fun _=>?_) fun _=>okR ⟨h,hx,rfl⟩) fun r⟨h1,h2,h3⟩=>?_
 ·rw[nZ h,CC,xv hx (by omega),CC];exact⟨h.flip,pE hx,by simp⟩
 ·rw[xu h1,CC];have hr:=h1.roll<|cell/2%4;generalize qN r.1 (cell/2%4)=R at hr ⊢;refine qh<|Hc (P:=Card) (vP (fun _=>?_) fun _=>okR hr) fun c hc=>okR ⟨hc,h2,h3⟩;obtain⟨l,el,_⟩:=xw hr h2 (by omega);rw[el,CC,show fC (4:Int)=CK ((DP 4).map fun(i:Nat)=>(i:Int))from rfl,CC];obtain⟨s,es,hs⟩:=cU (f:=zM cell l) (fun pre s=>Card s) ((DP 4).map fun(i:Nat)=>(i:Int)) R hr (by
   intro pre a post s e hs;have ha:a∈(DP 4).map fun(i:Nat)=>(i:Int):=by rw[e];simp
   obtain⟨i,hi,rfl⟩:=DU.mp ha;obtain⟨t',e',h',_⟩:=zl cell l hs (G7.mp hi);exact⟨t',e',h'⟩)
  rw[es];exact hs
def standAt(t:Cd)(i:Int):Cd:=(t.1,t.2.1,(if t.1=[83]then t.2.2+i else t.2.2-i)%4)
def fits(p m:Pl):Bool:=(decide (m.1=[63])||decide (m.1=p.1))&&((decide (m.2.1=[63])||decide (m.2.1=p.2.1))&&(decide (m.2.2=[63])||decide (m.2.2=p.2.2)))
theorem Card.standAt{t:Cd}(h:Card t)(i:Int):Card (standAt t i):=⟨h.lay,h.four,h.col,(fF _).1,(fF _).2⟩
theorem zo{t:Cd}(h:Card t):ij t=.ok [dJ t t.2.2]:=by
 unfold ij qI;rw[show t.2.2%4=t.2.2 from Kw h.low h.high,dZ h h.low h.high]
theorem sr{t:Cd}(h:Card t):xi t=.ok [dJ t ((t.2.2+2)%4)]:=by
 unfold xi Bh;rw[dZ h (fF _).1 (fF _).2]
theorem iU{t:Cd}{c:Nat}(h:isTurn c):pf t [c]=.ok (tw t c):=by
 unfold pf Be;have e:getD ([([102],1),([98],(-1)),([105],0)]:List (Tx×Int)) [c]=.ok (go c):=by rcases h with rfl|rfl|rfl<;>rfl
 rw[e,CC];by_cases z:t.1=[83]
 ·rw[if_pos (by simpa using z)];unfold tw;rw[if_pos z]
 ·rw[if_neg (by simpa using z)];unfold tw;rw[if_neg z]
theorem su{i:Int}(h: -1<=i/\i<=1):getD ([(1,[115]),((-1),[122]),(0,[111])]:List (Int×Tx)) i=.ok [nU i]:=by
 have:i= -1\/i=0\/i=1:=by omega
 rcases this with rfl|rfl|rfl<;>rfl
theorem xA{t:Cd}(h:Card t){c:Nat}(hc:isTurn c):xj t [c]=.ok (place t c):=by
 unfold xj Bi;simp only[zo h,sr h,iU hc,CC,su<|yb t c];rfl
theorem pF(t:Cd)(i:Int):xh t i=.ok (standAt t i):=by
 unfold xh Bg standAt;by_cases z:t.1=[83]
 ·rw[if_pos (by simpa using z),if_pos z];rfl
 ·rw[if_neg (by simpa using z),if_neg z];rfl
theorem vF(a b:Tx):vU a b=.ok (decide (b=[63])||decide (b=a)):=by
 unfold vU Bj;by_cases z:b=[63]
 ·rw[if_pos (by simpa using z),decide_eq_true z];rfl
 ·rw[if_neg (by simpa using z),decide_eq_false z];rfl
theorem sv(p m:Pl):xl p m=.ok (fits p m):=by
 unfold xl Bk;rw[fc (g:=fun a1:Tx×Tx=>decide (a1.2=[63])||decide (a1.2=a1.1)) (by show 3<=100000;decide)<|fun x _=>vF x.1 x.2,CC];congr 1;simp[fits]
theorem sx{t:Cd}(h:Card t)(s:Int×Int){c:Nat}(hc:isTurn c)(m:Pl):vh t s [c] m=.ok (fits (place (standAt t s.1) c) m):=by
 unfold vh Bl;simp only[pF,CC,xA (h.standAt _) hc,sv]
def aj(t:Cd)(s:Int×Int)(c:Nat):Int×Int:=(s.1+tw t c,if c=105 then s.2+1 else 0)
theorem vG{t:Cd}(s:Int×Int){c:Nat}(hc:isTurn c):vT t s [c]=.ok (aj t s c):=by
 unfold vT Bf aj;simp only[iU hc,CC];by_cases z:c=105;·rw[if_pos (by simp[z]),if_pos z];rfl
 ·rw[if_neg (by simp[z]),if_neg z];rfl
def fG(s:Int×Int)(loose bound:Int):Bool:=decide (eE s.1<=bound)&&decide (s.2<=loose)
theorem lH(s:Int×Int)(loose bound:Int):nP s loose bound=.ok (fG s loose bound):=by
 unfold nP Bd fG;by_cases z:eE s.1<=bound;·rw[if_pos (by simpa using z),decide_eq_true z];rfl
 ·rw[if_neg (by simpa using z),decide_eq_false z];rfl
def cX(t:Cd)(loose bound:Int)(s:Int×Int)(c:Nat)(m:Pl):Bool:=fG (aj t s c) loose bound&&fits (place (standAt t (aj t s c).1) c) m
def fN(t:Cd)(loose bound:Int):Int×Int->List (Nat×Pl)->Bool
 |_,[]=>true
 |s,(c,m)::r=>cX t loose bound s c m&&fN t loose bound (aj t s c) r
def iV(c:Nat):Bool:=decide<|isTurn c
theorem turnB_iff{c:Nat}:iV c=true↔isTurn c:=decide_eq_true_iff
def mE(x:Tx)(n:Nat):Bool:=decide (x.length=n)&&x.all iV
theorem xB(p m:Pl):dO AF ([p.1,p.2.1,p.2.2].zip [m.1,m.2.1,m.2.2]) ()=.ok (if fits p m then .nx ()else .rt false):=by
 rw[iI (g:=fun a:Tx×Tx=>if decide (a.2=[63])||decide (a.2=a.1)then none else some false) _ (fun a _=>by
  unfold AF;by_cases z:a.2=[63]
  ·simp[z]
  ·by_cases y:a.2=a.1;·simp[z,y]
   ·simp[z,y])]
 congr 1;unfold fits;simp only[Kc,List.zip_nil_right,Hw,List.findSome?_nil];cases decide (m.1=[63])||decide (m.1=p.1)<;>cases decide (m.2.1=[63])||decide (m.2.1=p.2.1)<;>cases decide (m.2.2=[63])||decide (m.2.2=p.2.2)<;>rfl
theorem xC{t:Cd}(loose bound:Int)(s:Int×Int)(hs: -1000000<s.2/\s.2<1000000){c:Nat}(hc:isTurn c)(m:Pl):zO j6 t loose bound ([c],place (standAt t (aj t s c).1) c,m) s=.ok (if cX t loose bound s c m then .nx (aj t s c)else .rt false):=by
 unfold zO;simp only[nV hc,CC,xB];rw[jN (by omega) (by omega)];simp only[CC];have e:(s.2+1)*(if decide (([c]:Tx)=[105])=true then(1:Int)else 0)=(aj t s c).2:=by
  unfold aj;by_cases z:c=105;·simp[z]
  ·simp[z]
 rw[e];have e1:s.1+tw t c=(aj t s c).1:=rfl;rw[e1];unfold cX fG;by_cases z:bound<eE (aj t s c).1
 ·have:¬eE (aj t s c).1<=bound:=by omega
  simp[z,this]
 ·have:eE (aj t s c).1<=bound:=by omega
  by_cases y:loose<(aj t s c).2
  ·have:¬(aj t s c).2<=loose:=by omega
   simp[*]
  ·have:(aj t s c).2<=loose:=by omega
   simp only[z,y,decide_false,Dm,if_false,CC,decide_eq_true ‹eE (aj t s c).1<=bound›,decide_eq_true ‹(aj t s c).2<=loose›,Bool.and_self,Io];cases fits (place (standAt t (aj t s c).1) c) m<;>rfl
theorem mF(t:Cd)(i:Int)(c:Nat):behind (standAt t i) c=standAt t (i+tw t c):=by
 unfold behind standAt tw;split;·simp only[M5,true_and];omega
 ·simp only[M5,true_and];omega
theorem zp{t:Cd}(h:Card t):standAt t 0=t:=by
 unfold standAt;have:=h.low;have:=h.high;rw[Int.add_zero,Int.sub_zero,ite_self,Kw h.low h.high]
theorem lI{t:Cd}(loose bound:Int):∀(x:Tx)(strip:List Pl),dH x->∀(s:Int×Int),0<=s.2->s.2+x.length<100000->dO (zO j6 t loose bound) ((bH x).zip ((dw (standAt t s.1) x).zip strip)) s=.ok (if fN t loose bound s (x.zip strip)then .nx (((x.zip strip).foldl (fun s p=>aj t s p.1) s))else .rt false)
 | [],strip,_,s,_,_=>by simp[bH,dO,fN]
 |c::r,[],_,s,_,_=>by simp[bH,dO,fN]
 |c::r,m::ms,hx,s,h0,h1=>by
  have hc:=hx c (by simp);simp only[El]at h1;have e:(bH (c::r)).zip ((dw (standAt t s.1) (c::r)).zip (m::ms))=([c],place (standAt t (aj t s c).1) c,m)::(bH r).zip ((dw (standAt t (aj t s c).1) r).zip ms):=by
   simp only[dw,mF];rfl
  rw[e];unfold dO;rw[xC loose bound s ⟨by omega,by omega⟩ hc m,CC];have b2:(aj t s c).2=s.2+1\/(aj t s c).2=0:=by unfold aj;split<;>simp
  have ih:=lI (t:=t) loose bound r ms (fun d hd=>hx d (by simp[hd])) (aj t s c) (by omega) (by omega);simp only[Kc,fN,IZ];cases z:cX t loose bound s c m with
  |false=>rfl
  |true=>simp only[if_true,tJ,ih,Io]
theorem sy{t:Cd}(h:Card t)(strip:List Pl)(loose bound:Int){x:Tx}(hl:x.length<=10000):xg t strip loose bound x=.ok (mE x strip.length&&fN t loose bound (0,0) (x.zip strip)):=by
 unfold xg Bc;rw[wq (by omega)];simp only[CC];by_cases z:x.length=strip.length
 ·rw[if_neg (by simp[z])];rw[iI (g:=fun t:Tx=>cond (iV<|t.headD 0) none<|some false) _ (fun t ht=>by
   obtain⟨c,hc,rfl⟩:=eg ht;unfold Bb;simp only[List.headD_cons];by_cases q:isTurn c;·rcases q with rfl|rfl|rfl<;>rfl
   ·rw[show iV c=false from decide_eq_false q];have q1:c≠102:=fun e=>q (.inl e);have q2:c≠98:=fun e=>q (.inr (.inl e));have q3:c≠105:=fun e=>q (.inr (.inr e));simp[q1,q2,q3]),CC]
  cases hf:(bH x).findSome? fun t:Tx=>cond (iV<|t.headD 0) none (some false)with
  |some r=>
   obtain⟨t',ht',e⟩:=List.exists_of_findSome?_eq_some hf;obtain⟨c,hc,rfl⟩:=eg ht';have q:iV c=false:=by
    cases z:iV c with
    |false=>rfl
    |true=>simp[z]at e
   have:r=false:=by simpa [q] using e.symm
   subst this;have:mE x strip.length=false:=by
    unfold mE;rw[Bool.and_eq_false_iff];right;rw[List.all_eq_false];exact⟨c,hc,by simp[q]⟩
   simp[this]
  |none=>
   rw[List.findSome?_eq_none_iff]at hf;have hx:dH x:=fun c hc=>by
    have:=hf [c] (by unfold bH;exact DU.mpr ⟨c,hc,rfl⟩);refine HS fun q=>?_;simp[show iV c=false from decide_eq_false q]at this
   have hr:mE x strip.length=true:=by
    unfold mE;simp only[Ge,decide_eq_true_eq,Gf];exact⟨z,fun c hc=>turnB_iff.mpr<|hx c hc⟩
   simp only[lG h hx hl,CC];have w:=lI (t:=t) loose bound x strip hx (0,0) (by decide) (by show(0:Int)+_<_;omega);rw[show standAt t ((0,0):Int×Int).1=t from zp h]at w;rw[w,CC,hr,Io];cases fN t loose bound (0,0) (x.zip strip)<;>rfl
 ·rw[if_pos (by simp;omega)];have:mE x strip.length=false:=by unfold mE;simp[z]
  simp[this]
theorem vH{s:List Int}(hs:s.length<=63)(most:Nat)(hm:most<=24):(vS s (most:Int)).Ok fun r=>Card r.1/\(∃n,n<=most/\vA n r.2.1)/\0<=r.2.2/\r.2.2<4:=by
 unfold vS B9;obtain⟨c0,e0⟩:=kA hs 0 (by decide);obtain⟨c1,e1⟩:=kA hs 1 (by decide);obtain⟨c2,e2⟩:=kA hs 2 (by decide);obtain⟨c3,e3⟩:=kA hs 3 (by decide);obtain⟨c4,e4⟩:=kA hs 4 (by decide);obtain⟨t,et,ht⟩:=qL c0;rw[show iw s 0=.ok c0 from e0,show iw s 1=.ok c1 from e1,show iw s 2=.ok c2 from e2,show iw s 3=.ok c3 from e3,show iw s 4=.ok c4 from e4];simp only[CC,et];rw[i5 (by omega),CC];have z0:=E5 c2 (show(most:Int)+1≠0 by omega);have z1:=DT c2 (show(0:Int)<(most:Int)+1 by omega);obtain⟨n,hn⟩:∃n:Nat,c2%((most:Int)+1)=(n:Int):=⟨(c2%((most:Int)+1)).toNat,by omega⟩
 rw[hn]at z0 z1 ⊢;have hn':n<=most:=by omega
 clear hn z0 z1;obtain⟨x,ex,hxl,hx⟩:=vq c1 n (by omega);rw[ex,CC,lG ht hx (show x.length<=10000 by omega),CC];have hw:=mC ht x;have hpl:=pC t x;refine qh (Hc (vB hw (by omega) (c3/3) _) fun l hl=>?_);rw[hpl,hxl]at hl;refine qh<|Hc (P:=Card) (vP (fun _=>?_) fun _=>okR ht) fun t1 h1=>?_;·exact qh (qh ((zm ht hx (by omega) _).imp fun r hr=>okR<|okR hr.1))
 ·refine qh<|Hc (P:=Card) (vP (fun _=>?_) fun _=>okR h1) fun t2 h2=>?_
  ·obtain⟨t',e',h'⟩:=qL<|c4/ 4/ 6;rw[e'];exact h'
  ·exact⟨h2,⟨n,hn',hl⟩,(fF _).1,(fF _).2⟩
theorem zq{x:Tx}(hx:x.length<=10){out:List Tx}(ho:out.length<=1000):zN x out=.ok (out++[x++[102],x++[98],x++[105]]):=by
 unfold zN;rw[dX (by simp;omega),dX (by simp;omega),dX (by simp;omega)];simp only[CC];rw[wo (by simp;omega)];rfl
theorem snoc_turns{x:Tx}{c:Nat}:dH (x++[c])↔dH x/\isTurn c:=by
 unfold dH;simp only[Ff,FY];constructor
 ·exact fun h=>⟨fun d hd=>h d<|.inl hd,h c<|.inr rfl⟩
 ·rintro ⟨h1,h2⟩ d (hd | rfl);·exact h1 d hd
  ·exact h2
theorem zr{t:Cd}{c:Nat}(h:isTurn c): -1<=tw t c/\tw t c<=1:=by
 unfold tw go;rcases h with rfl|rfl|rfl<;>split<;>decide
def gD(t:Cd)(mk:Pl)(loose bound:Int)(s:Int×Int):List Nat:=[102,98,105].filter fun c=>cX t loose bound s c mk
theorem mem_onw{t:Cd}{mk:Pl}{loose bound:Int}{s:Int×Int}{c:Nat}:c∈gD t mk loose bound s↔isTurn c/\cX t loose bound s c mk=true:=by
 unfold gD;rw[IY];simp[isTurn]
theorem iL{t:Cd}(h:Card t)(mk:Pl)(loose bound:Int)(s:Int×Int):gA t mk loose bound s=.ok ((gD t mk loose bound s).map fun c=>([c],aj t s c)):=by
 unfold gA Bm gD;rw[fc (g:=fun a:Tx=>(a,aj t s<|a.headD 0)) (by show 3<=100000;decide) (fun a ha=>by
  obtain⟨c,hc,rfl⟩:=eg ha;have ht:isTurn c:=by simpa [isTurn] using hc
  rw[vG s ht];rfl),CC]
 rw[nv (g:=fun a:Tx×(Int×Int)=>if cX t loose bound s (a.1.headD 0) mk=true then some a else none) (by show 3<=100000;decide) (fun a ha=>by
  obtain⟨x,hx,rfl⟩:=DU.mp ha;obtain⟨c,hc,rfl⟩:=eg hx;have ht:isTurn c:=by simpa [isTurn] using hc
  show((nP (aj t s c) loose bound).bind fun y=>if y then vh t (aj t s c) [c] mk else CK false).bind (fun y=>if y then CK (some ([c],aj t s c))else CK none)=_;rw[lH,CC,sx h _ ht];show _=CK (if cX t loose bound s c mk=true then some ([c],aj t s c)else none);unfold cX;cases fG (aj t s c) loose bound<;>cases fits (place (standAt t (aj t s c).1) c) mk<;>rfl)]
 show CK (List.filterMap _ [([102],aj t s 102),([98],aj t s 98),([105],aj t s 105)])=_;cases h1:cX t loose bound s 102 mk<;>cases h2:cX t loose bound s 98 mk<;>cases h3:cX t loose bound s 105 mk<;>simp[h1,h2,h3]
theorem pG:∀(n:Nat)(l:List Nat),l.Nodup->(∀x∈l,x<n)->l.length<=n
 |0,l,_,h=>by
  cases l with
  |nil=>simp
  |cons a l=>exact absurd (h a<|CZ ..) (by omega)
 |n+1,l,nd,h=>by
  by_cases z:n∈l
  ·have:=pG n (l.erase n) (nd.erase n) fun x hx=>by
    have h1:=h x<|GS hx;have h2:x≠n:=fun e=>by subst e;exact(Gi nd) hx
    omega
   rw[Gj z]at this;omega
  ·have:=pG n l nd fun x hx=>by
    have h1:=h x hx;have h2:x≠n:=fun e=>z<|e▸hx;omega
   omega
theorem mG{α:Type}(pre:List α)(a:α):fA (pre++[a]) (-(1:Int))=.ok a:=by
 have e:sD (pre++[a]) (-1)=some a:=by
  unfold sD ixN;rw[if_neg (by decide),if_pos (by simp;omega)];show(pre++[a])[_]? =some a;have:(-1+((pre++[a]).length:Int)).toNat=pre.length:=by simp;omega
  rw[this];simp
 unfold fA;rw[e];rfl
def om(k:Nat)(p:Int×Int):Prop:= -(k:Int)<=p.1/\p.1<=k/\0<=p.2/\p.2<=k
theorem ji{k:Nat}(hk:k<=4){l:List (Int×Int)}(nd:l.Nodup)(h:∀p∈l,om k p):l.length<=45:=by
 have nd2:(l.map fun p=>((p.1+4)*5+p.2).toNat).Nodup:=by
  rw[Eu,GL];refine(Eu.mp nd).imp_of_mem fun{a b}ha hb hne e=>hne ?_;have h1:=h a ha;have h2:=h b hb;unfold om at h1 h2;exact IB (by omega) (by omega)
 have:=pG 45 _ nd2 fun x hx=>by
  obtain⟨p,hp,rfl⟩:=DU.mp hx;have h1:=h p hp;unfold om at h1;omega
 simpa using this
theorem qP{t:Cd}{k:Nat}{s:Int×Int}(hs:om k s){c:Nat}(hc:isTurn c):om (k+1) (aj t s c):=by
 have h1:=zr (t:=t) hc;unfold om at hs ⊢;refine⟨?_,?_,?_,?_⟩;·show _<=s.1+tw t c;omega
 ·show s.1+tw t c<=_;omega
 ·show 0<=if c=105 then s.2+1 else 0;split<;>omega
 ·show(if c=105 then s.2+1 else 0)<=_;split<;>omega
def Nx(t:Cd)(mk:Pl)(loose bound:Int)(l:List (Int×Int))(p:Int×Int):Prop:=∃s∈l,∃c,isTurn c/\cX t loose bound s c mk=true/\p=aj t s c
theorem Nx.inb{t:Cd}{mk:Pl}{loose bound:Int}{k:Nat}{l:List (Int×Int)}(h:∀p∈l,om k p){p:Int×Int}(n:Nx t mk loose bound l p):om (k+1) p:=by
 obtain⟨s,hs,c,hc,hm,rfl⟩:=n;exact qP (h s hs) hc
theorem zt{t:Cd}{mk:Pl}{loose bound:Int}{p:Int×Int}:¬Nx t mk loose bound [] p:=fun⟨s,hs,_⟩=>by cases hs
theorem xD{t:Cd}{mk:Pl}{loose bound:Int}{l:List (Int×Int)}{a p:Int×Int}:Nx t mk loose bound (l++[a]) p↔Nx t mk loose bound l p\/∃c∈gD t mk loose bound a,p=aj t a c:=by
 constructor
 ·rintro ⟨q,hq,c,hc,hm,rfl⟩;rcases Ff.mp hq with hq|hq;·exact .inl ⟨q,hq,c,hc,hm,rfl⟩
  ·have:q=a:=by simpa using hq
   subst this;exact .inr ⟨c,mem_onw.mpr ⟨hc,hm⟩,rfl⟩
 ·rintro (⟨q,hq,z⟩ | ⟨c,hc,rfl⟩);·exact⟨q,by simp[hq],z⟩
  ·exact⟨a,by simp,c,(mem_onw.mp hc).1,(mem_onw.mp hc).2,rfl⟩
def mH(ks:List (Int×Int))(k:Int×Int):List (Int×Int):=if k∈ks then ks else k::ks
theorem addP_mem{ks:List (Int×Int)}{k p:Int×Int}:p∈mH ks k↔p∈ks\/p=k:=by
 unfold mH;split
 ·rename_i z;exact⟨.inl,fun h=>h.elim id fun e=>e▸z⟩
 ·rw[CW];exact⟨fun h=>h.symm,fun h=>h.symm⟩
theorem qQ{ks:List (Int×Int)}(h:ks.Nodup)(k:Int×Int):(mH ks k).Nodup:=by
 unfold mH;split;·exact h
 ·rename_i z;exact Ea.mpr ⟨z,h⟩
def sA(l ks:List (Int×Int)):List (Int×Int):=l.foldl mH ks
theorem ik:∀(l ks:List (Int×Int)),ks.Nodup->(sA l ks).Nodup/\∀p,p∈sA l ks↔p∈ks\/p∈l
 | [],ks,h=>⟨h,fun p=>by simp[sA]⟩
 |a::l,ks,h=>by
  have ih:=ik l (mH ks a)<|qQ h a;refine⟨ih.1,fun p=>?_⟩;show p∈sA l (mH ks a)↔_;rw[ih.2,addP_mem,CW,or_assoc]
def ip(t:Cd)(mk:Pl)(loose bound:Int)(l:List (Int×Int)):List (Int×Int):=eS<|sA (l.flatMap fun s=>(gD t mk loose bound s).map (aj t s)) []
theorem o6{t:Cd}{mk:Pl}{loose bound:Int}{l:List (Int×Int)}{p:Int×Int}:p∈(l.flatMap fun s=>(gD t mk loose bound s).map (aj t s))↔Nx t mk loose bound l p:=by
 rw[KO];constructor
 ·rintro ⟨s,hs,h⟩;obtain⟨c,hc,rfl⟩:=DU.mp h;exact⟨s,hs,c,(mem_onw.mp hc).1,(mem_onw.mp hc).2,rfl⟩
 ·rintro ⟨s,hs,c,h1,h2,rfl⟩;exact⟨s,hs,DU.mpr ⟨c,mem_onw.mpr ⟨h1,h2⟩,rfl⟩⟩
theorem mem_nxt{t:Cd}{mk:Pl}{loose bound:Int}{l:List (Int×Int)}{p:Int×Int}:p∈ip t mk loose bound l↔Nx t mk loose bound l p:=by
 unfold ip;rw[(dY _).mem_iff,(ik _ [] Gd).2,o6];simp
theorem zu{t:Cd}{mk:Pl}{loose bound:Int}{l S:List (Int×Int)}(nd:S.Nodup)(h:∀p,p∈S↔Nx t mk loose bound l p):eS S=ip t mk loose bound l:=by
 refine jR ((dY S).trans ?_)<|jQ S;have g:=ik (l.flatMap fun s=>(gD t mk loose bound s).map (aj t s)) [] Gd;exact(List.perm_ext_iff_of_nodup nd g.1).mpr fun p=>by rw[h,g.2,o6];simp
theorem vI{k:Nat}(hk:k<=4)(ys:List (Tx×(Int×Int)))(s0:List (Int×Int))(nd:s0.Nodup)(h0:∀p∈s0,om k p)(hy:∀a∈ys,om k a.2):
  bR (fun(a:Tx×(Int×Int))(s:List (Int×Int))=>rQ s a.2) ys s0=.ok (sA (ys.map (·.2)) s0):=by
 induction ys generalizing s0 with
 |nil=>rfl
 |cons a ys ih=>
  have hl:=ji hk nd h0;show(rQ s0 a.2).bind _=_;rw[show rQ s0 a.2=.ok (mH s0 a.2)from bq (by omega),CC];exact ih (mH s0 a.2) (qQ nd _) (fun p hp=>by
   rcases addP_mem.mp hp with z|z;·exact h0 p z
   ·rw[z];exact hy a (CZ ..)) fun b hb=>hy b (D7 _ hb)
theorem vJ{t:Cd}(h:Card t)(mk:Pl){loose bound:Int}{k:Nat}(hk:k<4){states:List (Int×Int)}(hs:∀p∈states,om k p):ph t mk loose bound states=.ok (ip t mk loose bound states):=by
 unfold ph Bn;obtain⟨s,e,h1,h2⟩:=cU (f:=fun(a:Int×Int)(s:List (Int×Int))=>(gA t mk loose bound a).bind fun y=>bR (fun(a:Tx×(Int×Int))(s:List (Int×Int))=>rQ s a.2) y s)
  (fun pre s=>s.Nodup/\∀p,p∈s↔Nx t mk loose bound pre p) states [] ⟨Gd,fun p=>⟨fun z=>(by cases z),fun z=>absurd z zt⟩⟩ (by
  intro pre a post s e ⟨h1,h2⟩;have ha:om k a:=hs a (by rw[e];simp);have hp:∀p∈pre,om k p:=fun p hp=>hs p (by rw[e];simp[hp]);rw[iL h,CC,vI (k:=k+1) (by omega) _ s h1 (fun p hq=>((h2 p).mp hq).inb hp) (fun b hb'=>by
   obtain⟨c,hc,rfl⟩:=DU.mp hb';exact qP ha (mem_onw.mp hc).1)]
  have g:=ik (((gD t mk loose bound a).map fun c=>(([c]:Tx),aj t a c)).map (·.2)) s h1;refine⟨_,rfl,g.1,fun p=>?_⟩;rw[g.2,h2,xD,F6,DU];exact or_congr Iff.rfl ⟨fun⟨c,h1,h2⟩=>⟨c,h1,h2.symm⟩,fun⟨c,h1,h2⟩=>⟨c,h1,h2.symm⟩⟩)
 have hlen:=ji (k:=k+1) (by omega) h1 fun p hp=>((h2 p).mp hp).inb hs;rw[show bR _ states []=CK s from e,CC,show ux s=.ok (eS s)from bq (by omega),zu h1 h2]
def br(t:Cd)(loose bound:Int):List Pl->List (Int×Int)->List (List<|Int×Int)
 | [],cur=>[cur]
 |m::r,cur=>match cur with
  | []=>[[]]
  |a::q=>(a::q)::br t loose bound r (ip t m loose bound (a::q))
theorem dM{t:Cd}{loose bound:Int}(l:List Pl)(cur:List (Int×Int)):∃r,br t loose bound l cur=cur::r:=by
 cases l with
 |nil=>exact⟨_,rfl⟩
 |cons m l=>cases cur with
  |nil=>exact⟨_,rfl⟩
  |cons a q=>exact⟨_,rfl⟩
theorem iq{t:Cd}(h:Card t){loose bound:Int}:∀(strip:List Pl)(k:Nat)(pre:List (List<|Int×Int))(cur:List (Int×Int)),k+strip.length<=4->pre.length+strip.length<=1000->(∀p∈cur,om k p)->
  ∃r,dO (ya ph t loose bound) strip (pre++[cur])=.ok r/\(r=.nx (pre++br t loose bound strip cur)\/r=.rt (pre++br t loose bound strip cur))
 | [],k,pre,cur,_,_,_=>⟨_,rfl,.inl rfl⟩
 |m::strip,k,pre,cur,hk,hp,hc=>by
  simp only[El]at hp hk;show ∃r,(ya ph t loose bound m<|pre++[cur]).bind _=.ok r/\_;cases cur with
  |nil=>
   refine⟨.rt<|pre++[[]],?_,.inr rfl⟩;unfold ya;rw[mG];rfl
  |cons a q=>
   have e1:ya ph t loose bound m (pre++[a::q])=.ok (.nx<|pre++[a::q]++[ip t m loose bound (a::q)]):=by
    unfold ya;rw[mG,CC,CC,if_neg (by simp),CC,vJ h m (show k<4 by omega) hc,CC,gy (by simp;omega)];rfl
   rw[e1,CC];obtain⟨r,er,hr⟩:=iq h strip (k+1) (pre++[a::q]) (ip t m loose bound (a::q)) (by omega) (by simp;omega)<|fun p hp=>(mem_nxt.mp hp).inb hc;refine⟨r,er,?_⟩;have e2:pre++br t loose bound (m::strip) (a::q)=pre++[a::q]++br t loose bound strip (ip t m loose bound (a::q)):=by
    rw[FA];rfl
   rw[e2];exact hr
theorem zw:∀p∈[((0:Int),(0:Int))],om 0 p:=fun p hp=>by
 have:p=(0,0):=by simpa using hp
 subst this;exact⟨by decide,by decide,by decide,by decide⟩
theorem xE{t:Cd}(h:Card t){loose bound:Int}(h0:0<=loose)(h1:0<=bound)(hl:loose<=3)(hb:bound<=60)(strip:List Pl)(hs:strip.length<=4):xm t strip loose bound=.ok (br t loose bound strip [(0,0)]):=by
 unfold xm Bo;have w:fG (0,0) loose bound=true:=by
  unfold fG eE;simp;omega
 rw[lH,w,CC,if_pos rfl,CC,CC];obtain⟨r,er,hr⟩:=iq h strip 0 [] [(0,0)] (by omega) (by simp;omega) zw;rw[show dO _ strip [[((0:Int),(0:Int))]]=CK r from er,CC];rcases hr with rfl|rfl<;>rfl
def cnt(t:Cd)(loose bound:Int):List Pl->Int×Int->Int
 | [],_=>1
 |m::r,s=>((gD t m loose bound s).map fun c=>cnt t loose bound r<|aj t s c).sum
def vK(b:Bool)(i:Int):Int:=if b=true then i else 0
theorem lJ{t:Cd}{loose bound:Int}{m:Pl}{r:List Pl}{s:Int×Int}:cnt t loose bound (m::r) s=vK (cX t loose bound s 102 m) (cnt t loose bound r<|aj t s 102)+vK (cX t loose bound s 98 m) (cnt t loose bound r<|aj t s 98)+vK (cX t loose bound s 105 m) (cnt t loose bound r<|aj t s 105):=by
 show((gD t m loose bound s).map fun c=>cnt t loose bound r<|aj t s c).sum=_;unfold gD vK;cases h1:cX t loose bound s 102 m<;>cases h2:cX t loose bound s 98 m<;>cases h3:cX t loose bound s 105 m<;>simp[h1,h2,h3]<;>omega
theorem iM{b:Bool}{i:Int}(h:0<=i):0<=vK b i:=by unfold vK;split<;>omega
theorem gS{t:Cd}{loose bound:Int}:∀(l:List Pl)(s:Int×Int),0<=cnt t loose bound l s
 | [],_=>by show(0:Int)<=1;decide
 |m::r,s=>by
  rw[lJ];have h1:=iM (b:=cX t loose bound s 102 m)<|gS (t:=t) (loose:=loose) (bound:=bound) r<|aj t s 102;have h2:=iM (b:=cX t loose bound s 98 m)<|gS (t:=t) (loose:=loose) (bound:=bound) r<|aj t s 98;have h3:=iM (b:=cX t loose bound s 105 m)<|gS (t:=t) (loose:=loose) (bound:=bound) r<|aj t s 105;omega
theorem cnt_pos{t:Cd}{loose bound:Int}{m:Pl}{r:List Pl}{s:Int×Int}:cnt t loose bound (m::r) s=0↔∀c,isTurn c->cX t loose bound s c m=true->cnt t loose bound r (aj t s c)=0:=by
 rw[lJ];have n1:=gS (t:=t) (loose:=loose) (bound:=bound) r<|aj t s 102;have n2:=gS (t:=t) (loose:=loose) (bound:=bound) r<|aj t s 98;have n3:=gS (t:=t) (loose:=loose) (bound:=bound) r<|aj t s 105;have h1:=iM (b:=cX t loose bound s 102 m) n1;have h2:=iM (b:=cX t loose bound s 98 m) n2;have h3:=iM (b:=cX t loose bound s 105 m) n3;constructor
 ·intro h c hc hm;rcases hc with rfl|rfl|rfl
  ·have:vK (cX t loose bound s 102 m) (cnt t loose bound r<|aj t s 102)=0:=by omega
   rw[hm]at this;exact this
  ·have:vK (cX t loose bound s 98 m) (cnt t loose bound r<|aj t s 98)=0:=by omega
   rw[hm]at this;exact this
  ·have:vK (cX t loose bound s 105 m) (cnt t loose bound r<|aj t s 105)=0:=by omega
   rw[hm]at this;exact this
 ·intro h;have key:∀c,isTurn c->vK (cX t loose bound s c m) (cnt t loose bound r<|aj t s c)=0:=fun c hc=>by
   unfold vK;split;·rename_i z;exact h c hc z
   ·rfl
  rw[key 102<|.inl rfl,key 98<|.inr<|.inl rfl,key 105<|.inr<|.inr rfl];rfl
theorem ir{t:Cd}{loose bound:Int}(l:List Pl)(cur:List (Int×Int)):0<(br t loose bound l cur).length:=by
 obtain⟨r,hr⟩:=dM (t:=t) (loose:=loose) (bound:=bound) l cur;rw[hr];simp
theorem lK{t:Cd}{loose bound:Int}:∀(l:List Pl)(cur:List (Int×Int)),(br t loose bound l cur).length<=l.length+1
 | [],cur=>CU _
 |m::r,[]=>by show 1<=_;omega
 |m::r,a::q=>by
  have:=lK (t:=t) (loose:=loose) (bound:=bound) r<|ip t m loose bound (a::q);show(br t loose bound r<|ip t m loose bound (a::q)).length+1<=r.length+1+1;omega
theorem kC{t:Cd}{loose bound:Int}:∀(l:List Pl)(cur:List (Int×Int))(i:Nat),i+1<(br t loose bound l cur).length->∃m L,l[i]? =some m/\(br t loose bound l cur)[i]? =some L/\(br t loose bound l cur)[i+1]? =some (ip t m loose bound L)
 | [],cur,i,h=>absurd h (by show ¬i+1<1;omega)
 |m::r,[],i,h=>absurd h (by show ¬i+1<1;omega)
 |m::r,a::q,0,h=>by
  obtain⟨z,hz⟩:=dM (t:=t) (loose:=loose) (bound:=bound) r<|ip t m loose bound (a::q);refine⟨m,a::q,rfl,rfl,?_⟩;show(br t loose bound r<|ip t m loose bound (a::q))[0]? =_;rw[hz];rfl
 |m::r,a::q,i+1,h=>by
  have h':i+1<(br t loose bound r<|ip t m loose bound (a::q)).length:=by
   have:i+1+1<(br t loose bound r<|ip t m loose bound (a::q)).length+1:=h;omega
  exact kC r (ip t m loose bound (a::q)) i h'
theorem zx{t:Cd}{m:Pl}{loose bound:Int}{l:List (Int×Int)}:(ip t m loose bound l).Nodup:=(dY _).nodup_iff.mpr (ik _ [] Gd).1
theorem iN{t:Cd}{loose bound:Int}:∀(l:List Pl)(k:Nat)(cur:List (Int×Int)),k+l.length<=4->cur.Nodup->(∀p∈cur,om k p)->∀L∈br t loose bound l cur,L.Nodup/\L.length<=45
 | [],k,cur,hk,h1,h2,L,hL=>by
  have:L=cur:=by simpa [br] using hL
  subst this;exact⟨h1,ji (by omega) h1 h2⟩
 |m::r,k,[],_,h1,h2,L,hL=>by
  have:L=[]:=by simpa [br] using hL
  subst this;exact⟨Gd,by simp⟩
 |m::r,k,a::q,hk,h1,h2,L,hL=>by
  simp only[El]at hk;rcases CW.mp (show L∈(a::q)::br t loose bound r (ip t m loose bound (a::q))from hL)with rfl|hL
  ·exact⟨h1,ji (by omega) h1 h2⟩
  ·exact iN r (k+1) _ (by omega) zx (fun p hp=>(mem_nxt.mp hp).inb h2) L hL
theorem gU{t:Cd}{loose bound:Int}:∀(l:List Pl)(cur:List (Int×Int)),∃L,(br t loose bound l cur)[(br t loose bound l cur).length-1]? =some L/\(L=[]\/(br t loose bound l cur).length=l.length+1)/\(L=[]↔∀s∈cur,cnt t loose bound l s=0)
 | [],cur=>⟨cur,rfl, .inr rfl,by
  constructor
  ·intro h;rw[h];exact fun s hs=>by cases hs
  ·intro h;cases cur with
   |nil=>rfl
   |cons a q=>exact absurd (h a (CZ ..)) (by show ¬(1:Int)=0;decide)⟩
 |m::r,[]=>⟨[],rfl,.inl rfl,by simp⟩
 |m::r,a::q=>by
  obtain⟨L,h1,h2,h3⟩:=gU (t:=t) (loose:=loose) (bound:=bound) r<|ip t m loose bound (a::q);have hp:=ir (t:=t) (loose:=loose) (bound:=bound) r<|ip t m loose bound (a::q);refine⟨L,?_,?_,?_⟩
  ·show((a::q)::br t loose bound r (ip t m loose bound (a::q)))[(br t loose bound r<|ip t m loose bound (a::q)).length+1- 1]? =some L;rw[HN];have e:(br t loose bound r<|ip t m loose bound (a::q)).length=(br t loose bound r<|ip t m loose bound (a::q)).length-1+1:=by omega
   rw[e,Ep];exact h1
  ·refine h2.imp id fun h=>?_;show(br t loose bound r<|ip t m loose bound (a::q)).length+1=_;rw[h];rfl
  ·rw[h3];constructor
   ·intro h s hs;exact cnt_pos.mpr fun c hc hm=>h _<|mem_nxt.mpr ⟨s,hs,c,hc,hm,rfl⟩
   ·intro h p hp;obtain⟨s,hs,c,hc,hm,rfl⟩:=mem_nxt.mp hp;exact cnt_pos.mp (h s hs) c hc hm
theorem vL{α:Type}{xs:List α}{a:α}(h:xs[xs.length-1]? =some a):fA xs (-(1:Int))=.ok a:=by
 have hl:xs.length-1<xs.length:=(CL.mp h).1;have e:sD xs (-1)=some a:=by
  unfold sD ixN;rw[if_neg (by decide),if_pos (by omega)];show xs[_]? =some a;have:(-1+(xs.length:Int)).toNat=xs.length-1:=by omega
  rw[this];exact h
 unfold fA;rw[e];rfl
theorem ee{α:Type}{xs:List α}{i:Nat}{a:α}(h:xs[i]? =some a):fA xs (i:Int)=.ok a:=by
 unfold fA;rw[pW h];rfl
theorem vM{α:Type}{kvs:List ((Int×Int)×α)}{k:Int×Int}{a:α}(h:∀q∈kvs,q.1≠k):nz kvs k a=kvs++[(k,a)]:=by
 unfold nz;rw[if_neg];intro z;obtain⟨q,h1,h2⟩:=List.any_eq_true.mp z;exact h q h1 (by simpa using h2)
theorem mI{α:Type}{f:Int×Int->List ((Int×Int)×α)->Res (List<|(Int×Int)×α)}{g:Int×Int->α}{ks:List (Int×Int)}(nd:ks.Nodup)(hl:ks.length<=900)(h:∀k∈ks,∀s:List ((Int×Int)×α),f k s=jZ s k (g k)):bR f ks []=.ok (ks.map fun k=>(k,g k)):=by
 obtain⟨s,e,h1⟩:=cU (f:=f) (fun pre s=>s=pre.map fun k=>(k,g k)) ks [] rfl (by
  intro pre a post s e h1;have hp:pre.length<=900:=by rw[e]at hl;simp at hl;omega
  rw[h a (by rw[e];simp),h1];refine⟨_,bq (by rw[Dc];omega),?_⟩;rw[vM<|fun q hq=>?_];·simp
  ·obtain⟨k,hk,rfl⟩:=DU.mp hq;intro z;have z:k=a:=z;subst z;rw[e,Kv]at nd;exact nd.2.2 k hk k (CZ ..) rfl)
 rw[e,h1]
theorem o7{α:Type}{g:Int×Int->α}{k:Int×Int}:∀{ks:List (Int×Int)},k∈ks->look (ks.map fun k=>(k,g k)) k=some (g k)
 |a::ks,h=>by
  by_cases e:a=k;·subst e;simp[look,EH]
  ·have:k∈ks:=by
    rcases CW.mp h with z|z;·exact absurd z.symm e
    ·exact z
   have ih:=o7 (g:=g) this;simp only[look,Dk,EH,decide_eq_false e]at ih ⊢;exact ih
theorem kD{α:Type}{g:Int×Int->α}{k:Int×Int}{ks:List (Int×Int)}(h:k∈ks):getD (ks.map fun k=>(k,g k)) k=.ok (g k):=by
 unfold getD;rw[o7 h];rfl
def dc(t:Cd)(strip:List Pl)(loose bound:Int)(i:Nat):List ((Int×Int)×Int):=((br t loose bound strip [(0,0)])[i]?.getD []).map fun s=>(s,cnt t loose bound (strip.drop i) s)
theorem vN{t:Cd}(h:Card t){strip:List Pl}(hs:strip.length<=4){loose bound:Int}(hl:loose<=3)(hb:bound<=60){i:Nat}{m:Pl}{L:List (Int×Int)}(h1:strip[i]? =some m)(h2:(br t loose bound strip [(0,0)])[i]? =some L)(h3:(br t loose bound strip [(0,0)])[i+1]? =some (ip t m loose bound L))
  {pre:List (List<|(Int×Int)×Int)} (hp:pre.length<=900):zP gA t strip loose bound (br t loose bound strip [(0,0)]) (i:Int) (pre++[dc t strip loose bound (i+1)])=.ok (pre++[dc t strip loose bound (i+1)]++[dc t strip loose bound i]):=by
 have all:=iN (t:=t) (loose:=loose) (bound:=bound) strip 0 [(0,0)] (by omega) (by simp) zw L<|Dh h2;have len:=all.2;have ed:dc t strip loose bound (i+1)=(ip t m loose bound L).map fun s=>(s,cnt t loose bound (strip.drop<|i+1) s):=by unfold dc;rw[h3];rfl
 have ei:dc t strip loose bound i=L.map fun s=>(s,cnt t loose bound (strip.drop i) s):=by unfold dc;rw[h2];rfl
 have dr:strip.drop i=m::strip.drop (i+1):=by
  obtain⟨hi,e⟩:=CL.mp h1;rw[Ez hi,e]
 unfold zP;rw[mG,CC,ee h2,CC];rw[mI (g:=fun s=>(gD t m loose bound s).map fun c=>(([c]:Tx),aj t s c)) all.1 (by omega) (fun k hk s=>by
  rw[ee h1,CC,iL h,CC]),CC,F6]
 rw[show Na ((fun x:(Int×Int)×List (Tx×(Int×Int))=>x.1)∘fun k=>(k,(gD t m loose bound k).map fun c=>(([c]:Tx),aj t k c))) L=L from by
  rw[show((fun x:(Int×Int)×List (Tx×(Int×Int))=>x.1)∘fun k=>(k,(gD t m loose bound k).map fun c=>(([c]:Tx),aj t k c)))=id from rfl,Mz]]
 rw[mI (g:=fun s=>cnt t loose bound (strip.drop i) s) all.1 (by omega) (fun k hk s=>by
  rw[kD hk,CC,fc (g:=fun a:Tx×(Int×Int)=>cnt t loose bound (strip.drop<|i+1) a.2) (by rw[Dc];unfold gD cap;refine E9 (GV _ _) (by decide)) (fun a ha=>by
   obtain⟨c,hc,rfl⟩:=DU.mp ha;rw[ed];exact kD (mem_nxt.mpr ⟨k,hk,c,(mem_onw.mp hc).1,(mem_onw.mp hc).2,rfl⟩)),CC,CC,F6]
  congr 1;rw[dr];rfl),CC,gy (by simp;omega),CC,ei]
theorem kE{t:Cd}(h:Card t){strip:List Pl}(hs:strip.length<=4){loose bound:Int}(h0:0<=loose)(hl:loose<=3)(hb0:0<=bound)(hb:bound<=60):∃D,pj t strip loose bound=.ok D/\D.length=(br t loose bound strip [(0,0)]).length/\∀i,i<D.length->D[i]? =some (dc t strip loose bound i):=by
 unfold pj Bp;rw[xE h h0 hb0 hl hb strip (by omega),CC];obtain⟨L,hL,hE,_⟩:=gU (t:=t) (loose:=loose) (bound:=bound) strip [(0,0)];have hpos:=ir (t:=t) (loose:=loose) (bound:=bound) strip [(0,0)];have hlen:=lK (t:=t) (loose:=loose) (bound:=bound) strip [(0,0)];have all:=iN (t:=t) (loose:=loose) (bound:=bound) strip 0 [(0,0)] (by omega) (by simp) zw L<|Dh hL;have len:=all.2;obtain⟨k,hk⟩:∃k,(br t loose bound strip [(0,0)]).length=k+1:=⟨_,(Nat.sub_add_cancel hpos).symm⟩
 rw[hk,HN]at hL;have e1:bR (fun(a:Int×Int)(s:List ((Int×Int)×Int))=>jZ s a (1:Int)) L []=.ok (dc t strip loose bound k):=by
  rw[mI (g:=fun _=>(1:Int)) all.1 (by omega)<|fun _ _ _=>rfl];unfold dc;rw[hL];show CK (L.map _)=CK (L.map _);rcases hE with rfl|hE
  ·rfl
  ·have:k=strip.length:=by omega
   subst this;rw[FK];rfl
 rw[vL (a:=L) (by rw[hk];exact hL),CC,e1,CC,CC];have er:my (((br t loose bound strip [(0,0)]).length:Int)-1)=.ok ((DP k).map fun(i:Nat)=>(i:Int)).reverse:=by
  rw[hk];have e:((k+1:Nat):Int)-1=(k:Int):=by omega
  rw[e];unfold my eY;rw[bq ⟨by omega,by omega⟩];rfl
 rw[er,CC];obtain⟨s,es,h1,h2⟩:=cU (f:=zP gA t strip loose bound<|br t loose bound strip [(0,0)]) (fun pre s=>s.length=pre.length+1/\∀j,j<=pre.length->s[j]? =some (dc t strip loose bound<|k-j)) ((DP k).map fun(i:Nat)=>(i:Int)).reverse [dc t strip loose bound k] ⟨rfl,fun j hj=>by
  have:j=0:=Nat.le_zero.mp hj;subst this;rfl⟩ (by
  intro pre a post s e ⟨h1,h2⟩;have hlen2:pre.length<k:=by have:=congrArg FP e;simp at this;omega
  have ha:a=((k-1-pre.length:Nat):Int):=by
   have:((DP k).map fun(i:Nat)=>(i:Int)).reverse[pre.length]? =some a:=by rw[e];simp
   rw[Fs (by simpa using hlen2),Dc,I9,CQ,F0 (by omega)]at this;exact(Dp this).symm
  obtain⟨m,L',q1,q2,q3⟩:=kC (t:=t) (loose:=loose) (bound:=bound) strip [(0,0)] (k-1-pre.length) (by omega);have hs2:s=s.dropLast++[dc t strip loose bound (k-1-pre.length+1)]:=by
   have hne:s≠[]:=fun z=>by rw[z]at h1;simp at h1
   have hl2:=h2 pre.length<|CU _;have e3:k-1-pre.length+1=k-pre.length:=by omega
   rw[e3];have:s.getLast hne=dc t strip loose bound (k-pre.length):=by
    have h5:=List.getLast?_eq_getElem? (l:=s);rw[h1,HN,hl2,List.getLast?_eq_some_getLast hne]at h5;exact Dp h5
   rw[<-this];exact(List.dropLast_concat_getLast hne).symm
  rw[ha,hs2,vN h hs hl hb q1 q2 q3 (by rw[List.length_dropLast];omega),<-hs2];refine⟨_,rfl,by simp[h1],fun j hj=>?_⟩;rw[DZ,Jb]at hj;by_cases z:j<=pre.length
  ·rw[Dq (by omega)];exact h2 j z
  ·have ej:j=pre.length+1:=by omega
   subst ej;rw[Dg (by omega),h1,IU];show some _=some _;congr 2;omega)
 rw[es,CC];have hsl:s.length=k+1:=by simpa using h1
 refine⟨_,rfl,by rw[Hv,hk];exact hsl,fun i hi=>?_⟩;rw[Hv]at hi;rw[Fs hi,h2 _ (by simp;omega)];congr 2;omega
theorem xF{t:Cd}(h:Card t){strip:List Pl}(hs:strip.length<=4){loose bound:Int}(h0:0<=loose)(hl:loose<=3)(hb0:0<=bound)(hb:bound<=60):xo t strip loose bound=.ok (cnt t loose bound strip (0,0)):=by
 unfold xo Bq;obtain⟨D,e,h1,h2⟩:=kE h hs h0 hl hb0 hb;have hpos:=ir (t:=t) (loose:=loose) (bound:=bound) strip [(0,0)];rw[e,CC,show fA D (0:Int)=.ok (dc t strip loose bound 0)from ee (i:=0) (h2 0 (by omega)),CC];obtain⟨r,hr⟩:=dM (t:=t) (loose:=loose) (bound:=bound) strip [(0,0)];congr 1;unfold dc kf;rw[hr];rfl
theorem iW{moves:List (Tx×(Int×Int))}{counts:List ((Int×Int)×Int)}{f:Tx×(Int×Int)->Int}(hf:∀a∈moves,getD counts a.2=.ok (f a)):∀(post pre:List (Tx×(Int×Int)))(n:Int)(fuel:Nat),moves=pre++post->0<=n->n<(post.map f).sum->post.length<fuel->
  ∃p a q n',post=p++a::q/\gd (zQ moves counts) (zR moves counts) fuel (n,(pre.length:Int))=.ok (n',((pre.length+p.length:Nat):Int))/\n=(p.map f).sum+n'/\0<=n'/\n'<f a
 | [],pre,n,fuel,_,h0,h1,_=>absurd h1 (by simp;omega)
 |a::post,pre,n,0,_,_,_,h=>absurd h (by omega)
 |a::post,pre,n,fuel+1,hm,h0,h1,hl=>by
  have ha:moves[pre.length]? =some a:=by rw[hm];simp
  have hf':=hf a (by rw[hm];simp);have e1:zQ moves counts (n,(pre.length:Int))=.ok (decide<|f a<=n):=by
   unfold zQ;rw[ee ha,CC,CC,hf',CC]
  unfold gd;rw[e1,CC];by_cases z:f a<=n
  ·have e2:zR moves counts (n,(pre.length:Int))=.ok (n-f a,(((pre++[a]).length:Nat):Int)):=by
    unfold zR;rw[ee ha,CC,CC,hf',CC];simp
   rw[if_pos<|decide_eq_true z,e2,CC];rw[Dk,EG]at h1;obtain⟨p,b,q,n',g1,g2,g3,g4,g5⟩:=iW hf post (pre++[a]) (n-f a) fuel (by rw[hm];simp) (by omega) (by omega) (by simp at hl;omega);refine⟨a::p,b,q,n',by rw[g1];rfl,?_,by rw[Dk,EG];omega,g4,g5⟩;rw[g2];congr 2;simp;omega
  ·rw[if_neg (by simpa using z)];exact⟨[],a,post,n,rfl,rfl,by simp,h0,by omega⟩
def IsWay(t:Cd)(loose bound:Int):List Pl->Int×Int->Int->Tx->Prop
 | [],_,n,x=>x=[]/\n=0
 |m::r,s,n,x=>∃p c q n' y,gD t m loose bound s=p++c::q/\x=c::y/\n=(p.map fun c=>cnt t loose bound r<|aj t s c).sum+n'/\0<=n'/\n'<cnt t loose bound r (aj t s c)/\IsWay t loose bound r (aj t s c) n' y
theorem sC{t:Cd}{m:Pl}{loose bound:Int}{s:Int×Int}{r:List Pl}{L:List (Int×Int)}(hL:∀c∈gD t m loose bound s,aj t s c∈L){n:Int}(h0:0<=n)(h1:n<cnt t loose bound (m::r) s):
  ∃p c q n',gD t m loose bound s=p++c::q/\pq ((gD t m loose bound s).map fun c=>([c],aj t s c)) (L.map fun s=>(s,cnt t loose bound r s)) n=.ok ([c],aj t s c,n')/\n=(p.map fun c=>cnt t loose bound r<|aj t s c).sum+n'/\0<=n'/\n'<cnt t loose bound r (aj t s c):=by
 unfold pq Br;have hs:((gD t m loose bound s).map fun c=>(([c]:Tx),aj t s c)).map (fun a=>cnt t loose bound r a.2)=(gD t m loose bound s).map fun c=>cnt t loose bound r (aj t s c):=by rw[F6];rfl
 obtain⟨p,a,q,n',g1,g2,g3,g4,g5⟩:=iW (moves:=(gD t m loose bound s).map fun c=>(([c]:Tx),aj t s c)) (counts:=L.map fun s=>(s,cnt t loose bound r s)) (f:=fun a=>cnt t loose bound r a.2) (fun a ha=>by
  obtain⟨c,hc,rfl⟩:=DU.mp ha;exact kD (hL c hc)) _ [] n cap rfl h0 (by rw[hs];exact h1) (by rw[Dc];unfold gD cap;exact Nat.lt_of_le_of_lt (GV _ _) (by decide))
 obtain⟨P,R,e1,e2,e3⟩:=List.map_eq_append_iff.mp g1;obtain⟨c,Q,e4,e5,e6⟩:=List.map_eq_cons_iff.mp e3;subst e2 e5;refine⟨P,c,Q,n',by rw[e1,e4],?_,?_,g4,g5⟩
 ·have e7:((gD t m loose bound s).map fun c=>(([c]:Tx),aj t s c))[(([]:List (Tx×(Int×Int))).length+(P.map fun c=>(([c]:Tx),aj t s c)).length:Nat)]? =some ([c],aj t s c):=by
   rw[e1,e4];simp
  rw[show((0:Int))=(([]:List (Tx×(Int×Int))).length:Int)from rfl,g2,CC,ee e7,CC]
 ·rw[g3,F6];rfl
def eL{α:Type}(i:Nat):List α->List (Int×α)
 | []=>[]
 |a::r=>((i:Int),a)::eL (i+1) r
theorem pH{α:Type}:∀(i:Nat)(xs:List α),(eL i xs).length=xs.length
 |_,[]=>rfl
 |i,a::r=>by show(eL (i+1) r).length+1=r.length+1;rw[pH]
theorem vO{α:Type}:∀(i:Nat)(xs:List α)(j:Nat)(h:j<xs.length),(eL i xs)[j]? =some (((i+j:Nat):Int),xs[j])
 |i,a::r,0,_=>rfl
 |i,a::r,j+1,h=>by
  show(eL (i+1) r)[j]? =_;rw[vO (i+1) r j (by simpa using h)];show some (((i+1+j:Nat):Int),r[j]'(by simpa using h))=some (((i+(j+1):Nat):Int),r[j]'(by simpa using h));rw[show i+1+j=i+(j+1) by omega]
theorem qR{α:Type}(xs:List α):fM xs=eL 0 xs:=by
 refine EW fun j=>?_;by_cases h:j<xs.length
 ·rw[vO 0 xs j h];unfold fM;rw[Jd,F0 h,CJ h,HA]
 ·rw[E3 (show(fM xs).length<=j by simp[fM];omega),E3 (by rw[pH];omega)]
theorem o9{t:Cd}(h:Card t){strip:List Pl}{loose bound:Int}(hw:(br t loose bound strip [(0,0)]).length=strip.length+1){D:List (List<|(Int×Int)×Int)}(hl:D.length=strip.length+1)(hD:∀i,i<D.length->D[i]? =some (dc t strip loose bound i)):∀(post:List Pl)(i:Nat)(s:Int×Int)(n:Int)(x:Tx),strip.drop i=post->i<=strip.length->s∈(br t loose bound strip [(0,0)])[i]?.getD []->0<=n->n<cnt t loose bound post s->x.length+post.length<=1000->
  ∃s' n' y,bR (eJ pq gA t loose bound D) (eL i post) (s,n,x)=.ok (s',n',x++y)/\IsWay t loose bound post s n y
 | [],i,s,n,x,_,_,_,h0,h1,_=>⟨s,n,[],by rw [F1];rfl,rfl,by
  have:n<1:=h1;omega⟩
 |m::r,i,s,n,x,hd,hi,hs,h0,h1,hx=>by
  have hi':i<strip.length:=by
   rcases Mh i strip.length with z|z;·exact z
   ·rw[GK z]at hd;cases hd
  rw[Ez hi']at hd;obtain⟨hd1,hd2⟩:=Hf hd;obtain⟨m',L,q1,q2,q3⟩:=kC (t:=t) (loose:=loose) (bound:=bound) strip [(0,0)] i (by omega);have hm:m'=m:=by rw[CJ hi',hd1]at q1;exact(Dp q1).symm
  subst hm;rw[q2]at hs;have hs:s∈L:=hs;have hnx:∀c∈gD t m' loose bound s,aj t s c∈ip t m' loose bound L:=fun c hc=>mem_nxt.mpr ⟨s,hs,c,(mem_onw.mp hc).1,(mem_onw.mp hc).2,rfl⟩;obtain⟨p,c,q,n',g1,g2,g3,g4,g5⟩:=sC (r:=r) hnx h0 h1;have e1:eJ pq gA t loose bound D ((i:Int),m') (s,n,x)=.ok (aj t s c,n',x++[c]):=by
   unfold eJ;dsimp only;rw[iL h,CC,show(i:Int)+1=((i+1:Nat):Int) by omega,ee (hD (i+1) (by omega)),CC];rw[show dc t strip loose bound (i+1)=(ip t m' loose bound L).map fun s=>(s,cnt t loose bound r s) by unfold dc;rw[q3,hd2];rfl,g2,CC,dX (by simp at hx ⊢;omega),CC]
  show ∃s' n' y,(eJ pq gA t loose bound D ((i:Int),m') (s,n,x)).bind _=_/\_;rw[e1,CC];obtain⟨s',n'',y,f1,f2⟩:=o9 h hw hl hD r (i+1) (aj t s c) n' (x++[c]) hd2 (by omega) (by rw[q3];exact hnx c (by rw[g1];simp)) g4 g5 (by simp at hx ⊢;omega);exact⟨s',n'',c::y,by rw[f1];simp,p,c,q,n',y,g1,rfl,g3,g4,g5,f2⟩
theorem pI{t:Cd}{loose bound:Int}{strip:List Pl}(h:cnt t loose bound strip (0,0)≠0):(br t loose bound strip [(0,0)]).length=strip.length+1:=by
 obtain⟨L,_,h2,h3⟩:=gU (t:=t) (loose:=loose) (bound:=bound) strip [(0,0)];rcases h2 with z|z;·exact absurd (h3.mp z (0,0)<|CZ ..) h
 ·exact z
theorem zy{t:Cd}(h:Card t){strip:List Pl}(hs:strip.length<=4){loose bound:Int}(h0:0<=loose)(hl:loose<=3)(hb0:0<=bound)(hb:bound<=60){n:Int}(n0:0<=n)(n1:n<cnt t loose bound strip (0,0)):∃x,cV t strip loose bound n=.ok x/\IsWay t loose bound strip (0,0) n x:=by
 unfold cV nQ;obtain⟨D,e,h1,h2⟩:=kE h hs h0 hl hb0 hb;have hw:=pI (t:=t) (loose:=loose) (bound:=bound) (strip:=strip) (by omega);obtain⟨r,hr⟩:=dM (t:=t) (loose:=loose) (bound:=bound) strip [(0,0)];have ez:kf (dc t strip loose bound 0) ((0:Int),(0:Int)) (0:Int)=cnt t loose bound strip (0,0):=by
  unfold dc kf;rw[hr];rfl
 rw[e,CC,if_neg (by simpa using n0),show fA D (0:Int)=.ok (dc t strip loose bound 0)from ee (i:=0) (h2 0 (by omega)),CC,CC,ez,CC,if_neg (by simp;omega)];obtain⟨s',n',y,f1,f2⟩:=o9 h hw (by omega) h2 strip 0 (0,0) n [] rfl (by omega) (by rw[hr];simp) n0 n1 (by simp;omega);rw[qR,f1,CC];exact⟨y,rfl,f2⟩
theorem og{f:Nat->Int}(hf:∀c,0<=f c):∀{p q p' q':List Nat}{c c':Nat}{n n':Int},p++c::q=p'++c'::q'->0<=n->n<f c->0<=n'->n'<f c'->(p.map f).sum+n=(p'.map f).sum+n'->c=c'/\n=n'
 | [],q,[],q',c,c',n,n',e,_,_,_,_,h=>by
  refine⟨(Hf e).1,?_⟩;simpa using h
 | [],q,a::p',q',c,c',n,n',e,h1,h2,h3,h4,h=>by
  have ha:c=a:=(Hf e).1;subst ha;have nn:0<=(p'.map f).sum:=by
   clear h e
   induction p' with
   |nil=>exact MB _
   |cons b l ih=>rw[Dk,EG];have:=hf b;omega
  rw[Dk,EG,FU,Mj]at h;omega
 |a::p,q,[],q',c,c',n,n',e,h1,h2,h3,h4,h=>by
  have ha:a=c':=(Hf e).1;subst ha;have nn:0<=(p.map f).sum:=by
   clear h e
   induction p with
   |nil=>exact MB _
   |cons b l ih=>rw[Dk,EG];have:=hf b;omega
  rw[Dk,EG,FU,Mj]at h;omega
 |a::p,q,b::p',q',c,c',n,n',e,h1,h2,h3,h4,h=>by
  have hab:=Hf e;rw[Dk,EG,Dk,EG,hab.1]at h;exact og hf hab.2 h1 h2 h3 h4 (by omega)
theorem IsWay.uniq{t:Cd}{loose bound:Int}:∀{l:List Pl}{s:Int×Int}{n:Int}{x y:Tx},IsWay t loose bound l s n x->IsWay t loose bound l s n y->x=y
 | [],_,_,_,_,h1,h2=>by rw[h1.1,h2.1]
 |m::r,s,n,x,y,h1,h2=>by
  obtain⟨p,c,q,n',z,g1,g2,g3,g4,g5,g6⟩:=h1;obtain⟨p',c',q',n'',z',k1,k2,k3,k4,k5,k6⟩:=h2;have u:=og (f:=fun c=>cnt t loose bound r<|aj t s c) (fun c=>gS r _) (g1.symm.trans k1) g4 g5 k4 k5<|g3.symm.trans k3;obtain⟨u1,u2⟩:=u;subst u1 u2;rw[g2,k2,g6.uniq k6]
def fH:Nat->List Tx
 |0=>[[]]
 |n+1=>(fH n).flatMap fun x=>[x++[102],x++[98],x++[105]]
theorem iO:∀n,fH (n+1)=([102,98,105]:List Nat).flatMap fun c=>(fH n).map (c:: ·)
 |0=>rfl
 |n+1=>by
  show(fH<|n+1).flatMap _=_;rw[iO n,List.flatMap_assoc];refine congrArg (fun f=>([102,98,105]:List Nat).flatMap f)<|funext fun c=>?_;rw[List.flatMap_map,<-iO n];show _=((fH n).flatMap fun x=>[x++[102],x++[98],x++[105]]).map (c:: ·);rw[List.map_flatMap];rfl
theorem kF:∀(n:Nat)(x:Tx),x∈fH n->x.length=n/\dH x
 |0,x,h=>by
  have:x=[]:=by simpa [fH] using h
  subst this;exact⟨rfl,fun c hc=>nomatch hc⟩
 |n+1,x,h=>by
  obtain⟨y,hy,hx⟩:=KO.mp (show x∈(fH n).flatMap fun x=>[x++[102],x++[98],x++[105]]from h);obtain⟨h1,h2⟩:=kF n y hy;have hx:x=y++[102]\/x=y++[98]\/x=y++[105]:=by simpa using hx
  rcases hx with rfl|rfl|rfl<;>exact⟨by simp[h1],snoc_turns.mpr ⟨h2,by first|exact .inl rfl|exact .inr (.inl rfl)|exact .inr<|.inr rfl⟩⟩
theorem kG:∀n,(fH n).length=3^n
 |0=>rfl
 |n+1=>by
  show((fH n).flatMap _).length=_;rw[JG,Me,<-kG n];generalize fH n=L
  induction L with
  |nil=>rfl
  |cons a L ih=>rw[Dk,EG,ih];show 3+_=_;simp only[El];omega
theorem zz{n:Nat}(hn:n<=4):xf (n:Int)=.ok (fH n):=by
 unfold xf Ba;rw[lq (by omega),CC];obtain⟨s,e,h1⟩:=cU (f:=AE) (fun pre s=>s=fH pre.length) ((DP n).map fun(i:Nat)=>(i:Int)) [[]] rfl (by
  intro pre a post s e h1;have hp:pre.length<n:=by have:=congrArg FP e;simp at this;omega
  subst h1;unfold AE;obtain⟨s',e',h'⟩:=cU (f:=zN) (fun(pr:List Tx)s=>s=pr.flatMap fun x=>[x++[102],x++[98],x++[105]]) (fH pre.length) [] rfl (by
   intro pr x po s q hs;have hx:=kF _ x (by rw[q];simp);have hlen:pr.length<3^pre.length:=by rw[<-kG,q];simp
   have h81:3^pre.length<=3^4:=Jy (by decide) (by omega);have hsl:s.length<=1000:=by
    rw[hs,JG];have:∀L:List Tx,(L.map fun x=>([x++[102],x++[98],x++[105]]:List Tx).length).sum=3*L.length:=fun L=>by
     induction L with
     |nil=>rfl
     |cons a L ih=>rw[Dk,EG,ih];show 3+_=_;simp only[El];omega
    rw[this];omega
   rw[zq (by omega) hsl];refine⟨_,rfl,?_⟩;rw[hs,List.flatMap_append];simp)
  rw[e',CC];refine⟨_,rfl,?_⟩;rw[h',DZ];rfl)
 rw[e,CC,h1];simp
def fI(t:Cd)(loose bound:Int):List Pl->Int×Int->List Tx
 | [],_=>[[]]
 |m::r,s=>(gD t m loose bound s).flatMap fun c=>(fI t loose bound r<|aj t s c).map (c:: ·)
theorem iX{α β:Type}(p:α->Bool)(f:α->List β):∀l:List α,(l.flatMap fun a=>if p a=true then f a else [])=(l.filter p).flatMap f
 | []=>rfl
 |a::l=>by
  rw[GQ,iX p f l,List.filter_cons];cases p a;·rfl
  ·rw[if_pos rfl,if_pos rfl,GQ]
theorem mJ{t:Cd}{loose bound:Int}:∀(l:List Pl)(s:Int×Int),(fH l.length).filter (fun x=>fN t loose bound s<|x.zip l)=fI t loose bound l s
 | [],s=>rfl
 |m::r,s=>by
  show(fH<|r.length+1).filter _=(gD t m loose bound s).flatMap _;rw[iO,List.filter_flatMap];unfold gD;rw[<-iX];refine congrArg (fun f=>([102,98,105]:List Nat).flatMap f)<|funext fun c=>?_;rw[List.filter_map];show((fH r.length).filter fun x=>cX t loose bound s c m&&fN t loose bound (aj t s c) (x.zip r)).map (c:: ·)=_;cases cX t loose bound s c m;·simp
  ·rw[if_pos rfl,<-mJ r];simp
theorem iu{t:Cd}{loose bound:Int}:∀(l:List Pl)(s:Int×Int),((fI t loose bound l s).length:Int)=cnt t loose bound l s
 | [],s=>rfl
 |m::r,s=>by
  show(((gD t m loose bound s).flatMap _).length:Int)=((gD t m loose bound s).map fun c=>cnt t loose bound r<|aj t s c).sum;generalize gD t m loose bound s=O
  induction O with
  |nil=>rfl
  |cons a O ih=>
   rw[GQ,DZ,Dk,EG,<-ih,Dc,<-iu r];omega
theorem qS{α β:Type}{f:α->List β}{x:β}:∀(l:List α)(n:Nat),(l.flatMap f)[n]? =some x->∃p c q k,l=p++c::q/\(n:Int)=(p.map fun c=>((f c).length:Int)).sum+(k:Nat)/\(f c)[k]? =some x
 | [],n,h=>by simp at h
 |a::l,n,h=>by
  rw[GQ]at h;by_cases z:n<(f a).length
  ·rw[Dq z]at h;exact⟨[],a,l,n,rfl,by simp,h⟩
  ·rw[Dg (by omega)]at h;obtain⟨p,c,q,k,h1,h2,h3⟩:=qS l _ h;refine⟨a::p,c,q,k,by rw[h1];rfl,?_,h3⟩;rw[Dk,EG];omega
theorem oh{t:Cd}{loose bound:Int}:∀(l:List Pl)(s:Int×Int)(n:Nat)(x:Tx),(fI t loose bound l s)[n]? =some x->IsWay t loose bound l s n x
 | [],s,n,x,h=>by
  have h:([[]]:List Tx)[n]? =some x:=h
  match n,h with
  |0,h=>cases h;exact⟨rfl,rfl⟩
  |n+1,h=>simp at h
 |m::r,s,n,x,h=>by
  obtain⟨p,c,q,k,h1,h2,h3⟩:=qS _ n (show((gD t m loose bound s).flatMap fun c=>(fI t loose bound r<|aj t s c).map (c:: ·))[n]? =some x from h);rw[CQ]at h3;obtain⟨y,hy,rfl⟩:=DM.mp h3;have hk:k<(fI t loose bound r<|aj t s c).length:=(CL.mp hy).1;have hl:=iu (t:=t) (loose:=loose) (bound:=bound) r<|aj t s c;refine⟨p,c,q,k,y,h1,rfl,?_,by omega,by omega,oh r _ _ _ hy⟩;rw[h2];congr 2;refine Hu fun d _=>?_;rw[Dc,iu]
theorem xG{a:Nat}(h:a<10^42):a.log2<1920:=by
 by_cases z:a=0;·rw[z];decide
 ·rw[Nat.log2_lt z];exact CN h (by decide +kernel)
theorem xH{n:Int}(h: -(10^41)<n)(h2:n<10^42):(uc n).length<=44:=by
 have key:∀m:Nat,m<10^42->(Nat.repr m).toList.length<=42:=fun m hm=>by
  rw[Nat.toList_repr];exact(Nat.length_toDigits_le_iff (by decide) (by decide)).mpr hm
 unfold uc;rw[Dc];cases n with
 |ofNat m=>exact E9 (key m (by have h2:(m:Int)<10^42:=h2;omega)) (by decide)
 |negSucc m=>
  show("-"++Nat.repr (m+1)).toList.length<=44;rw[String.toList_append,DZ];have:=key (m+1) (by have h: -(10^41)<Int.negSucc m:=h;omega);show 1+_<=44;omega
theorem xI{n:Int}(h: -(10^41)<n)(h2:n<10^42):yM n=.ok (uc n):=bq (xG (by omega))
theorem zA{t:Cd}(h:Card t){strip:List Pl}(hs:strip.length<=4){loose bound:Int}(h0:0<=loose)(hl:loose<=3)(hb0:0<=bound)(hb:bound<=60){n:Int}(n1: -(10^41)<n)(n2:n<10^42)(hn:n<0\/cnt t loose bound strip (0,0)<=n):cV t strip loose bound n=.err 11:=by
 unfold cV nQ;obtain⟨D,e,h1,h2⟩:=kE h hs h0 hl hb0 hb;have hpos:=ir (t:=t) (loose:=loose) (bound:=bound) strip [(0,0)];obtain⟨r,hr⟩:=dM (t:=t) (loose:=loose) (bound:=bound) strip [(0,0)];have ez:kf (dc t strip loose bound 0) ((0:Int),(0:Int)) (0:Int)=cnt t loose bound strip (0,0):=by
  unfold dc kf;rw[hr];rfl
 have hl':=xH n1 n2;have e2:(if(decide<|n<(0:Int))then CK true else((fA D (0:Int)).bind fun y6=>CK<|kf y6 (0,0) (0:Int)).bind fun y7=>CK (decide<|y7<=n):Res Bool)=.ok true:=by
  by_cases z:n<0;·rw[if_pos<|decide_eq_true z]
  ·rw[if_neg (by simpa using z),show fA D (0:Int)=.ok (dc t strip loose bound 0)from ee (i:=0) (h2 0 (by omega)),CC,CC,ez];congr 1;exact decide_eq_true (by omega)
 rw[e,CC,e2,CC,if_pos rfl,dX (by simp),CC,xI n1 n2,CC,dX (by simp;omega),CC,CC,show yN _=_ from bq (by simp;unfold cap;omega),CC]
theorem zB(ns:List Int)(h:ns.length<=63):(vi ns).Ok (· =true):=by
 unfold vi qJ;refine qh ((show(vS ns (4:Int)).Ok _ from vH h 4 (by decide)).imp fun y zz=>?_);obtain⟨hc,⟨n,hn,hm⟩,g0,g1⟩:=zz;have hl:y.2.1.length=n:=hm.1;have h60:y.2.1.length<=4:=by omega
 obtain⟨c5,e5⟩:=kA h 5 (by decide);obtain⟨c6,e6⟩:=kA h 6 (by decide);rw[show iw ns 5=.ok c5 from e5,show iw ns 6=.ok c6 from e6,CC,CC];have b0:0<=c5%7:=E5 _ (by decide);have b1:c5%7<7:=DT _ (by decide);obtain⟨b,eb,hb⟩:∃b,fA [(0:Int),(1:Int),(2:Int),(3:Int),(4:Int),(5:Int),(60:Int)] (c5%7)=.ok b/\0<=b/\b<=60:=by
  generalize c5%7=k at b0 b1;have:k=0\/k=1\/k=2\/k=3\/k=4\/k=5\/k=6:=by omega
  rcases this with rfl|rfl|rfl|rfl|rfl|rfl|rfl<;>exact⟨_,rfl,by decide,by decide⟩
 rw[eb,CC,zz (show y.2.1.length<=4 by omega),CC];have l81:(fH y.2.1.length).length<=81:=by
  rw[kG];exact E9 (Jy (by decide) (show y.2.1.length<=4 by omega)) (by decide)
 rw[nv (g:=fun x:Tx=>if fN y.1 y.2.2 b (0,0) (x.zip y.2.1)=true then some x else none) (by show _<=100000;omega) (fun x hx=>by
  obtain⟨h1,h2⟩:=kF _ x hx;have er:mE x y.2.1.length=true:=by
   unfold mE;rw[Ge,decide_eq_true_iff,Gf];exact⟨h1,fun c hc=>turnB_iff.mpr<|h2 c hc⟩
  rw[sy hc _ _ _ (by omega),er,Io,CC];cases fN y.1 y.2.2 b (0,0) (x.zip y.2.1)<;>rfl),CC]
 have ef:(fH y.2.1.length).filterMap (fun x:Tx=>if fN y.1 y.2.2 b (0,0) (x.zip y.2.1)=true then some x else none)=fI y.1 y.2.2 b y.2.1 (0,0):=by
  rw[<-mJ,<-List.filterMap_eq_filter];congr 1
 rw[ef];have cl:=iu (t:=y.1) (loose:=y.2.2) (bound:=b) y.2.1 (0,0);have cl81:(fI y.1 y.2.2 b y.2.1 (0,0)).length<=81:=by
  rw[<-mJ];exact E9 (GV _ _) l81
 rw[xF hc h60 g0 (by omega) hb.1 hb.2,CC,u5 cl.symm,CC,CC,show(!true)=false from rfl,if_neg (by decide)];have ew:dO (gh cV y b) (fM<|fI y.1 y.2.2 b y.2.1 (0,0)) ()=.ok (.nx ()):=by
  rw[iI (g:=fun _=>none) _ fun p hp=>?_]
  ·have:∀l:List (Int×Tx),(l.findSome? fun _=>(none:Option Bool))=none:=fun l=>by induction l with | nil=>rfl | cons a l ih=>rw[Hw];exact ih
   rw[this]
  ·rw[qR]at hp;obtain⟨j,hj⟩:=GR.mp hp;have hjl:j<(fI y.1 y.2.2 b y.2.1 (0,0)).length:=by
    have:=(CL.mp hj).1
    rwa [pH]at this
   rw[vO 0 _ j hjl,HA]at hj;have hw:=oh y.2.1 (0,0) j _<|CJ hjl;obtain⟨x,ex,hx⟩:=zy hc h60 g0 (show y.2.2<=3 by omega) hb.1 hb.2 (n:=(j:Int)) (by omega) (by omega);have hp:p=((j:Int),(fI y.1 y.2.2 b y.2.1 (0,0))[j]):=(Dp hj).symm;subst hp;unfold gh;rw[ex,CC,hx.uniq hw,show qi _ _=.ok true from by unfold qi;rw[decide_eq_true rfl],CC,CC];rfl
 rw[ew,CC,u5 rfl,CC,CC,show(!true)=false from rfl,if_neg (by decide),CC,i5 (by decide),CC,CC,CC,CC,CC];have m0:0<=c6%(10000000000000000000000000000000000000000:Int):=E5 _ (by decide);have m1:c6%(10000000000000000000000000000000000000000:Int)<10000000000000000000000000000000000000000:=DT _ (by decide);generalize c6%(10000000000000000000000000000000000000000:Int)=z at m0 m1 ⊢;have step:∀a:Int, -(10^41)<a->a<10^42->cW nR y b (fI y.1 y.2.2 b y.2.1 (0,0)) a ()=.ok (.nx ()):=fun a a0 a1=>by
  unfold cW;by_cases q:a<0\/((fI y.1 y.2.2 b y.2.1 (0,0)).length:Int)<=a
  ·have:(if decide (a<0)=true then CK true else CK (decide<|((fI y.1 y.2.2 b y.2.1 (0,0)).length:Int)<=a):Res Bool)=.ok true:=by
    by_cases q2:a<0;·rw[if_pos<|decide_eq_true q2]
    ·rw[if_neg (by simpa using q2),decide_eq_true (by omega)]
   rw[this,CC,if_pos rfl];unfold nR Bs;rw[zA hc h60 g0 (show y.2.2<=3 by omega) hb.1 hb.2 a0 a1 (by omega)];show(((Ak (oP [114,101,102,117,115,101,100] 11) _).bind _).bind _)=_;rw[yK (by rfl) (by simp[oP,Dat.le])];rfl
  ·have:(if decide (a<0)=true then CK true else CK (decide<|((fI y.1 y.2.2 b y.2.1 (0,0)).length:Int)<=a):Res Bool)=.ok false:=by
    rw[if_neg (by simp;omega),decide_eq_false (by omega)]
   rw[this,CC];rfl
 have e2:dO (cW nR y b<|fI y.1 y.2.2 b y.2.1 (0,0)) [((0:Int)-1),((fI y.1 y.2.2 b y.2.1 (0,0)).length:Int),((fI y.1 y.2.2 b y.2.1 (0,0)).length:Int)+1+z,(0:Int)-((fI y.1 y.2.2 b y.2.1 (0,0)).length:Int)] ()=.ok (.nx ()):=by
  show(cW nR y b _ _ ()).bind _=_;rw[step _ (by omega) (by omega),CC];show(cW nR y b _ _ ()).bind _=_;rw[step _ (by omega) (by omega),CC];show(cW nR y b _ _ ()).bind _=_;rw[step _ (by omega) (by omega),CC];show(cW nR y b _ _ ()).bind _=_;rw[step _ (by omega) (by omega),CC];rfl
 rw[e2];rfl
end Mi
namespace PySem.W.Fast
def tw861502493610598483:=()
def tw11876866769297974510:=()
def tw7774113678449685934:=()
def tw10621704037168529605:=()
def tw8736506791609843793:=()
def tw2997814950011334938:=()
def tw10276846922893749604:=()
def tw15932749649340748510:=()
def tw1713909409736274294:=()
def tw10888863842102328177:=()
def tw6248682570935725439:=()
def tw1956260828630720203:=()
def tw10297410513487048360:=()
def tw1591272322931911807:=()
def tw14746253646979254834:=()
def tw17691633702590694504:=()
def tw15235614512728720:=()
def tw514280064592716601:=()
def tw12209093929937474548:=()
def tw6548459193220583526:=()
def tw6542358382571353910:=()
def tw13385558918117058561:=()
def tw6782663255696616371:=()
def tw3365755272349913518:=()
def tw14592624751514493413:=()
def tw10203300007123444082:=()
def tw5872530126848033075:=()
def tw14074196154385387334:=()
def tw18367749455379333440:=()
def tw12188032599808994241:=()
def tw10159399881129095643:=()
def tw13444670453868202053:=()
def tw17334828202450815106:=()
def tw9950792792127014553:=()
def tw17426987436379436081:=()
def tw2595585439558603231:=()
def tw12405761042648551022:=()
def tw2474200967059427378:=()
def tw16728255500844073214:=()
def tw10988312798546598065:=()
def tw3681537716864247207:=()
def tw14611616552423853409:=()
def tw15018716904364860632:=()
def tw6557801498797044033:=()
def tw15685335758407661847:=()
def tw9402243437249704421:=()
def tw561727478393794602:=()
def tw4309217394794523951:=()
def tw14565471765716263578:=()
def tw12843764043397292189:=()
def tw256976265262469064:=()
def tw12740759652641322565:=()
def tw4323258101793500111:=()
def tw17260811203177919210:=()
def tw3615178456390077923:=()
def tw7943549864190904611:=()
def tw547895379624588593:=()
def tw6702445572142316249:=()
def tw1937721966566455358:=()
def tw15227483606004533461:=()
def tw15214748959534726111:=()
def tw6216382948874008006:=()
def tw3998647374267775353:=()
def tw2399617604181995578:=()
def tw11066385474520676512:=()
def tw14847308668706973960:=()
def tw6128145076113358165:=()
def tw15621415185263527259:=()
def tw9806118890596472461:=()
def tw15895094517606616290:=()
def tw9387514328989991554:=()
def tw14172470266813156586:=()
def tw11521511281804667912:=()
def tw209982475168477708:=()
def tw3374319085511977134:=()
def tw726351398001015727:=()
def tw1142673529048489019:=()
def tw2135409205425526673:=()
def tw17724038513149304489:=()
def tw15861351967447197489:=()
end PySem.W.Fast
section
open PySem PySem.W PyProof.Rows
set_option maxHeartbeats 0 in
open_top hd for PySem.Challenge.rw_wornband_k31_ways_counted
end
namespace Wb
open PySem L2 Mi
theorem xJ{K:CF}:∀vs H Q E,qK K vs H Q E->Au (isScr K) (rs isB) vi vs H Q E:=fun vs H Q E⟨a,ns,h1,h2,h3,h4⟩=>
 ⟨⟨H,H,.refl _⟩,ns,.ref a,rfl,h1,⟨a,rfl,h2⟩,fun _=>False,fun _ h=>h,Res.Ok.e ((zB ns h3).imp fun r hr u W' _ hu=>by cases hr;cases hu;exact h4 _)⟩
theorem fin_mk{l:Hj}{w:D6}{K:CF}{h:Heap}{mg:Str->Option CD}{fa:Addr}{Z1M:Addr}{Z6m Z6n:Option Addr}{Z6o:Array (Option CD)}{Z6p Z6q Z6r Z6s Z4l Z6t:CD}{f_law:Addr}{od_law an_law:Option Addr}{sl_law:Array (Option CD)}{oc_law kV_law dc_law pm_law cd_law ct_law:CD}{Z1Y:Addr}{Z5T Z5U:Option Addr}{Z5V:Array (Option CD)}{Z5W Z5X Z5Y Z5Z Z4d Z60:CD}{Z24:Tok}{Z1Q:Addr}{Za0:Nat}{x_SLANTS0 y_SLANTS0 x_SLANTS1 y_SLANTS1 x_SLANTS2 y_SLANTS2:Tok}{Z11:Addr}{Zaf:Nat}{x_START0 x_START1:Tok}{Z23:Addr}{Zag:Nat}{x_STEPS0 y_STEPS0 x_STEPS1 y_STEPS1 x_STEPS2 y_STEPS2:Tok}{Z5s:Tok}{Z6i:Tok}{Z04 Z3c:Addr}{Z6u Z7n:Str}{Z6v Z6w:List CD}{Z6x Z6y:Bool}{Z6z:List Str}{Z6A:Option Bool}{Z6B:Option Addr}{Z6C Z6D Z6E Z6F Z6G:Option CD}{Z6H:CD}{Z6I:Option Addr}{Z2B:Array EZ}{Z6J:Nat}{Z6K:Array (Option CD)}{Z0a Z4L:Addr}{Z6L Z7o:Str}{Z6M Z6N:List CD}{Z6O Z6P:Bool}{Z6Q:List Str}{Z6R:Option Bool}{Z6S:Option Addr}{Z6T Z6U Z6V Z6W Z6X:Option CD}{Z0o Z6Y:Addr}{Z8Z Za1:Str}{Z90 Z91:List CD}{Z92 Z93:Bool}{Z94:List Str}{Z95:Option Bool}{Z96:Option Addr}{Z97 Z98 Z99 Z9a Z9b:Option CD}{Z0l Z5Q:Addr}{Z89 Z9c:Str}{Z8a Z8b:List CD}{Z8c Z8d:Bool}{Z8e:List Str}{Z8f:Option Bool}{Z8g:Option Addr}{Z8h Z8i Z8j Z8k Z8l:Option CD}{Z0m Z5R:Addr}{Z8m Z9d:Str}{Z8n Z8o:List CD}{Z8p Z8q:Bool}{Z8r:List Str}{Z8s:Option Bool}{Z8t:Option Addr}{Z8u Z8v Z8w Z8x Z8y:Option CD}{Z0n Z5S:Addr}{Z8z Z9e:Str}{Z8A Z8B:List CD}{Z8C Z8D:Bool}{Z8E:List Str}{Z8F:Option Bool}{Z8G:Option Addr}{Z8H Z8I Z8J Z8K Z8L:Option CD}{Z0c Z5l:Addr}{Z7p Z8M:Str}{Z7q Z7r:List CD}{Z7s Z7t:Bool}{Z7u:List Str}{Z7v:Option Bool}{Z7w:Option Addr}{Z7x Z7y Z7z Z7A Z7B:Option CD}{Z0d Z5m:Addr}{Z7C Z8N:Str}{Z7D Z7E:List CD}{Z7F Z7G:Bool}{Z7H:List Str}{Z7I:Option Bool}{Z7J:Option Addr}{Z7K Z7L Z7M Z7N Z7O:Option CD}{Z0e Z5n:Addr}{Z7P Z8O:Str}{Z7Q Z7R:List CD}{Z7S Z7T:Bool}{Z7U:List Str}{Z7V:Option Bool}{Z7W:Option Addr}{Z7X Z7Y Z7Z Z80 Z81:Option CD}{Z07 Z4e:Addr}{Z5u Z61:Str}{Z5v Z5w:List CD}{Z5x Z5y:Bool}{Z5z:List Str}{Z5A:Option Bool}{Z5B:Option Addr}{Z5C Z5D Z5E Z5F Z5G:Option CD}{Z0p Z6Z:Addr}{Z9f Za2:Str}{Z9g Z9h:List CD}{Z9i Z9j:Bool}{Z9k:List Str}{Z9l:Option Bool}{Z9m:Option Addr}{Z9n Z9o Z9p Z9q Z9r:Option CD}{Z09 Z4m:Addr}{Z62 Z70:Str}{Z63 Z64:List CD}{Z65 Z66:Bool}{Z67:List Str}{Z68:Option Bool}{Z69:Option Addr}{Z6a Z6b Z6c Z6d Z6e:Option CD}{Z08 Z3d:Addr}{Z71 Z82:Str}{Z72 Z73:List CD}{Z74 Z75:Bool}{Z76:List Str}{Z77:Option Bool}{Z78:Option Addr}{Z79 Z7a Z7b Z7c Z7d:Option CD}{Z7e:CD}{Z7f:Option Addr}{Z2C:Array EZ}{Z7g:Nat}{Z7h:Array (Option CD)}{Z0q Z7i:Addr}{Z9s Za3:Str}{Z9t Z9u:List CD}{Z9v Z9w:Bool}{Z9x:List Str}{Z9y:Option Bool}{Z9z:Option Addr}{Z9A Z9B Z9C Z9D Z9E:Option CD}(X:K.In h)(G:h.Ns mainGlobals mg)(hfa:mg "law"=some (.ref fa))
  (Z2d:D4 K mainGlobals "_law_same"=some (some<|.ref Z1M))
  (Z3e:K.lookup Z1M=some ⟨Z6p,Z6m,.func<|ET "_law_same" "_law_same" (defArgs<|tp 62) (defBody<|tp 62) (defScope<|tp 62) .none Z6q Z6r Z6s Z6n Z4l Z6t,Z6o⟩)
  (Z3f:FI K Z4l "_law_same"=true)
  (Z1N:EE K (.ref Z1M)=true)
  (Z4n:DI K "_law_at" (tp 47) ["_law_script","_law_k"])
  (Z3U:DI K "_law_row" (tp 43) ["_law_cell","_law_many","_law_base"])
  (Z2D:DI K "_law_holes" (tp 44) ["_law_cell"])
  (Z3g:DI K "_law_card" (tp 45) ["_law_cell"])
  (Z2E:DI K "_law_turns" (tp 46) ["_law_cell","_law_many"])
  (Z4o:DI K "_law_go" (tp 49) ["_law_turn"])
  (Z2f:DI K "_law_behind" (tp 50) ["_law_card_here","_law_turn"])
  (Z2F:DI K "_law_twist" (tp 51) ["_law_card_here","_law_turn"])
  (Z2g:DI K "_law_places" (tp 52) ["_law_card_here","_law_turns_here"])
  (Z2G:DI K "_law_marks" (tp 53) ["_law_places_here","_law_cell","_law_lies"])
  (Z1Z:DI K "_law_turnover" (tp 54) ["_law_card_here"])
  (Z3h:DI K "_law_back" (tp 55) ["_law_turns_here"])
  (Z3i:DI K "_law_roll" (tp 56) ["_law_card_here","_law_many"])
  (Z3j:DI K "_law_seen" (tp 57) ["_law_card_here","_law_turns_here"])
  (Z3V:DI K "_law_kin" (tp 58) ["_law_card_here","_law_turns_here","_law_cell"])
  (Z2H:DI K "_law_small" (tp 59) ["_law_script","_law_most"])
  (Z3W:DI K "_law_all" (tp 61) ["_law_many"])
  (Z3k:DI K "_law_does" (tp 60) ["_law_card_here","_law_strip","_law_loose","_law_bound","_law_text"])
  (Z51:DI K "within" (tp 33) ["state","loose","bound"])
  (Z3X:DI K "twisting" (tp 21) ["tablet","turn"])
  (Z27:DI K "state_behind" (tp 32) ["tablet","state","turn"])
  (Z4p:DI K "twisted" (tp 31) ["tablet","twist"])
  (d_top:DI K "top" (tp 19) ["tablet"])
  (Z52:DI K "bottom" (tp 20) ["tablet"])
  (Z2I:DI K "left_place" (tp 24) ["tablet","turn"])
  (Z5H:DI K "suits" (tp 28) ["sign","left"])
  (Z53:DI K "agrees" (tp 27) ["place","mark"])
  (Z54:DI K "leaves" (tp 34) ["tablet","state","turn","mark"])
  (Z55:DI K "onward" (tp 35) ["tablet","mark","loose","bound","state"])
  (Z20:DI K "states_behind" (tp 37) ["tablet","mark","loose","bound","states"])
  (Z56:DI K "search" (tp 36) ["tablet","strip","loose","bound"])
  (Z5I:DI K "tails" (tp 38) ["tablet","strip","loose","bound"])
  (Z7j:DI K "ways" (tp 39) ["tablet","strip","loose","bound"])
  (Z57:DI K "chosen" (tp 41) ["moves","counts","number"])
  (d_way:DI K "way" (tp 40) ["tablet","strip","loose","bound","number"])
  (Z2J:DI K "_law_tried" (tp 64) ["_law_card_here","_law_strip","_law_loose","_law_bound","_law_number"])
  (a_law:D4 K mainGlobals "law"=some (some<|.ref f_law))
  (l_law:K.lookup f_law=some ⟨oc_law,od_law,.func<|ET "law" "law" (defArgs<|tp 65) (defBody<|tp 65) (defScope<|tp 65) .none kV_law dc_law pm_law an_law cd_law ct_law,sl_law⟩)
  (c_law:FI K cd_law "law"=true)
  (k_law:EE K (.ref f_law)=true)
  (Z2K:D4 K mainGlobals "_law_kinds"=some (some<|.ref Z1Y))
  (Z2L:K.lookup Z1Y=some ⟨Z5W,Z5T,.func<|ET "_law_kinds" "_law_kinds" (defArgs<|tp 63) (defBody<|tp 63) (defScope<|tp 63) .none Z5X Z5Y Z5Z Z5U Z4d Z60,Z5V⟩)
  (Z2M:FI K Z4d "_law_kinds"=true)
  (Z21:EE K (.ref Z1Y)=true)
  (z_ValueError:D4 K mainGlobals "ValueError"=some none)
  (z_abs:D4 K mainGlobals "abs"=some none)
  (z_all:D4 K mainGlobals "all"=some none)
  (z_bool:D4 K mainGlobals "bool"=some none)
  (z_enumerate:D4 K mainGlobals "enumerate"=some none)
  (z_int:D4 K mainGlobals "int"=some none)
  (z_isinstance:D4 K mainGlobals "isinstance"=some none)
  (z_len:D4 K mainGlobals "len"=some none)
  (z_list:D4 K mainGlobals "list"=some none)
  (z_range:D4 K mainGlobals "range"=some none)
  (z_reversed:D4 K mainGlobals "reversed"=some none)
  (z_sorted:D4 K mainGlobals "sorted"=some none)
  (z_str:D4 K mainGlobals "str"=some none)
  (z_sum:D4 K mainGlobals "sum"=some none)
  (z_tuple:D4 K mainGlobals "tuple"=some none)
  (z_zip:D4 K mainGlobals "zip"=some none)
  (Z5J:D4 K mainGlobals "HOLES"=some (some<|.int 4 Z24))
  (Z58:D4 K mainGlobals "SLANTS"=some (some<|.ref Z1Q))
  (Z59:K.lookup Z1Q=some {cls:=.type "dict",data:=.dict #[⟨hashInt<|1,.int (1) x_SLANTS0,.str (CI "s") y_SLANTS0⟩,⟨hashInt<|-1,.int (-1) x_SLANTS1,.str (CI "z") y_SLANTS1⟩,⟨hashInt<|0,.int (0) x_SLANTS2,.str (CI "o") y_SLANTS2⟩] Za0})
  (Z5a:(Z1Q==sysModules)=false)
  (Z5K:D4 K mainGlobals "START"=some (some<|.ref Z11))
  (Z5L:K.lookup Z11=some {cls:=.type "tuple",data:=.seq #[.int (0) x_START0,.int (0) x_START1] Zaf})
  (Z5M:D4 K mainGlobals "STEPS"=some (some<|.ref Z23))
  (Z5N:K.lookup Z23=some {cls:=.type "dict",data:=.dict #[⟨Hn w.params<|CI "f",.str (CI "f") x_STEPS0,.int (1) y_STEPS0⟩,⟨Hn w.params<|CI "b",.str (CI "b") x_STEPS1,.int (-1) y_STEPS1⟩,⟨Hn w.params<|CI "i",.str (CI "i") x_STEPS2,.int (0) y_STEPS2⟩] Zag})
  (Z5O:(Z23==sysModules)=false)
  (Z5P:D4 K mainGlobals "TURNS"=some (some<|.str (CI "fbi") Z5s))
  (Z7k:D4 K mainGlobals "WORN"=some (some<|.str (CI "?") Z6i))
  (Z3l:D4 K mainGlobals "BandError"=some (some<|.ref Z04))
  (Z3m:K.lookup Z04=some (excClassObj Z6u Z7n Z04 Z3c Z6v [.type "ValueError",.type "Exception",.type "BaseException",.type "object"] Z6x Z6z Z6w Z6y Z6A Z6B Z6C Z6D Z6E Z6F Z6G "ValueError.__new__"))
  (Z3n:K.lookup Z3c=some ⟨Z6H,Z6I,.dict Z2B Z6J,Z6K⟩) (Z2N:Lc Z2B) (Z2O:nsFind Z2B "__init__"=none)
  (Z3o:D4 K mainGlobals "BadTablet"=some (some<|.ref Z0a))
  (Z3p:K.lookup Z0a=some (excClassObj Z6L Z7o Z0a Z4L Z6M [.ref Z04,.type "ValueError",.type "Exception",.type "BaseException",.type "object"] Z6O Z6Q Z6N Z6P Z6R Z6S Z6T Z6U Z6V Z6W Z6X "ValueError.__new__"))
  (Z2P:CV K (.ref Z0a) "__getattribute__"=some (some<|.builtin "BaseException.__getattribute__")) (Z2Q:CV K (.ref Z0a) "__getattr__"=some none) (Z2R:CV K (.ref Z0a) "__class__"=some (some<|.builtin "object.__class__"))
  (Z5b:D4 K mainGlobals "BadRow"=some (some<|.ref Z0o))
  (Z5c:K.lookup Z0o=some (excClassObj Z8Z Za1 Z0o Z6Y Z90 [.ref Z04,.type "ValueError",.type "Exception",.type "BaseException",.type "object"] Z92 Z94 Z91 Z93 Z95 Z96 Z97 Z98 Z99 Z9a Z9b "ValueError.__new__"))
  (Z4q:CV K (.ref Z0o) "__getattribute__"=some (some<|.builtin "BaseException.__getattribute__")) (Z4r:CV K (.ref Z0o) "__getattr__"=some none) (Z4s:CV K (.ref Z0o) "__class__"=some (some<|.builtin "object.__class__"))
  (Z4t:D4 K mainGlobals "BadText"=some (some<|.ref Z0l))
  (Z4u:K.lookup Z0l=some (excClassObj Z89 Z9c Z0l Z5Q Z8a [.ref Z04,.type "ValueError",.type "Exception",.type "BaseException",.type "object"] Z8c Z8e Z8b Z8d Z8f Z8g Z8h Z8i Z8j Z8k Z8l "ValueError.__new__"))
  (Z3Y:CV K (.ref Z0l) "__getattribute__"=some (some<|.builtin "BaseException.__getattribute__")) (Z3Z:CV K (.ref Z0l) "__getattr__"=some none) (Z40:CV K (.ref Z0l) "__class__"=some (some<|.builtin "object.__class__"))
  (Z4v:D4 K mainGlobals "BadMark"=some (some<|.ref Z0m))
  (Z4w:K.lookup Z0m=some (excClassObj Z8m Z9d Z0m Z5R Z8n [.ref Z04,.type "ValueError",.type "Exception",.type "BaseException",.type "object"] Z8p Z8r Z8o Z8q Z8s Z8t Z8u Z8v Z8w Z8x Z8y "ValueError.__new__"))
  (Z41:CV K (.ref Z0m) "__getattribute__"=some (some<|.builtin "BaseException.__getattribute__")) (Z42:CV K (.ref Z0m) "__getattr__"=some none) (Z43:CV K (.ref Z0m) "__class__"=some (some<|.builtin "object.__class__"))
  (Z4x:D4 K mainGlobals "TooLong"=some (some<|.ref Z0n))
  (Z4y:K.lookup Z0n=some (excClassObj Z8z Z9e Z0n Z5S Z8A [.ref Z04,.type "ValueError",.type "Exception",.type "BaseException",.type "object"] Z8C Z8E Z8B Z8D Z8F Z8G Z8H Z8I Z8J Z8K Z8L "ValueError.__new__"))
  (Z44:CV K (.ref Z0n) "__getattribute__"=some (some<|.builtin "BaseException.__getattribute__")) (Z45:CV K (.ref Z0n) "__getattr__"=some none) (Z46:CV K (.ref Z0n) "__class__"=some (some<|.builtin "object.__class__"))
  (Z47:D4 K mainGlobals "TooTight"=some (some<|.ref Z0c))
  (Z48:K.lookup Z0c=some (excClassObj Z7p Z8M Z0c Z5l Z7q [.ref Z04,.type "ValueError",.type "Exception",.type "BaseException",.type "object"] Z7s Z7u Z7r Z7t Z7v Z7w Z7x Z7y Z7z Z7A Z7B "ValueError.__new__"))
  (Z3q:CV K (.ref Z0c) "__getattribute__"=some (some<|.builtin "BaseException.__getattribute__")) (Z3r:CV K (.ref Z0c) "__getattr__"=some none) (Z3s:CV K (.ref Z0c) "__class__"=some (some<|.builtin "object.__class__"))
  (Z49:D4 K mainGlobals "SpoolDry"=some (some<|.ref Z0d))
  (Z4a:K.lookup Z0d=some (excClassObj Z7C Z8N Z0d Z5m Z7D [.ref Z04,.type "ValueError",.type "Exception",.type "BaseException",.type "object"] Z7F Z7H Z7E Z7G Z7I Z7J Z7K Z7L Z7M Z7N Z7O "ValueError.__new__"))
  (Z3t:CV K (.ref Z0d) "__getattribute__"=some (some<|.builtin "BaseException.__getattribute__")) (Z3u:CV K (.ref Z0d) "__getattr__"=some none) (Z3v:CV K (.ref Z0d) "__class__"=some (some<|.builtin "object.__class__"))
  (Z4b:D4 K mainGlobals "NoTablet"=some (some<|.ref Z0e))
  (Z4c:K.lookup Z0e=some (excClassObj Z7P Z8O Z0e Z5n Z7Q [.ref Z04,.type "ValueError",.type "Exception",.type "BaseException",.type "object"] Z7S Z7U Z7R Z7T Z7V Z7W Z7X Z7Y Z7Z Z80 Z81 "ValueError.__new__"))
  (Z3w:CV K (.ref Z0e) "__getattribute__"=some (some<|.builtin "BaseException.__getattribute__")) (Z3x:CV K (.ref Z0e) "__getattr__"=some none) (Z3y:CV K (.ref Z0e) "__class__"=some (some<|.builtin "object.__class__"))
  (Z2h:D4 K mainGlobals "NothingLeft"=some (some<|.ref Z07))
  (Z2i:K.lookup Z07=some (excClassObj Z5u Z61 Z07 Z4e Z5v [.ref Z04,.type "ValueError",.type "Exception",.type "BaseException",.type "object"] Z5x Z5z Z5w Z5y Z5A Z5B Z5C Z5D Z5E Z5F Z5G "ValueError.__new__"))
  (Z28:CV K (.ref Z07) "__getattribute__"=some (some<|.builtin "BaseException.__getattribute__")) (Z29:CV K (.ref Z07) "__getattr__"=some none) (Z2a:CV K (.ref Z07) "__class__"=some (some<|.builtin "object.__class__"))
  (Z5d:D4 K mainGlobals "Unlike"=some (some<|.ref Z0p))
  (Z5e:K.lookup Z0p=some (excClassObj Z9f Za2 Z0p Z6Z Z9g [.ref Z04,.type "ValueError",.type "Exception",.type "BaseException",.type "object"] Z9i Z9k Z9h Z9j Z9l Z9m Z9n Z9o Z9p Z9q Z9r "ValueError.__new__"))
  (Z4z:CV K (.ref Z0p) "__getattribute__"=some (some<|.builtin "BaseException.__getattribute__")) (Z4A:CV K (.ref Z0p) "__getattr__"=some none) (Z4B:CV K (.ref Z0p) "__class__"=some (some<|.builtin "object.__class__"))
  (Z2S:D4 K mainGlobals "SeenThread"=some (some<|.ref Z09))
  (Z2T:K.lookup Z09=some (excClassObj Z62 Z70 Z09 Z4m Z63 [.ref Z04,.type "ValueError",.type "Exception",.type "BaseException",.type "object"] Z65 Z67 Z64 Z66 Z68 Z69 Z6a Z6b Z6c Z6d Z6e "ValueError.__new__"))
  (Z2j:CV K (.ref Z09) "__getattribute__"=some (some<|.builtin "BaseException.__getattribute__")) (Z2k:CV K (.ref Z09) "__getattr__"=some none) (Z2l:CV K (.ref Z09) "__class__"=some (some<|.builtin "object.__class__"))
  (Z3z:D4 K mainGlobals "NoSuchWay"=some (some<|.ref Z08))
  (Z3A:K.lookup Z08=some (excClassObj Z71 Z82 Z08 Z3d Z72 [.ref Z04,.type "ValueError",.type "Exception",.type "BaseException",.type "object"] Z74 Z76 Z73 Z75 Z77 Z78 Z79 Z7a Z7b Z7c Z7d "ValueError.__new__"))
  (Z2U:CV K (.ref Z08) "__getattribute__"=some (some<|.builtin "BaseException.__getattribute__")) (Z2V:CV K (.ref Z08) "__getattr__"=some none) (Z2W:CV K (.ref Z08) "__class__"=some (some<|.builtin "object.__class__"))
  (Z3B:K.lookup Z3d=some ⟨Z7e,Z7f,.dict Z2C Z7g,Z7h⟩) (Z2X:Lc Z2C) (Z2Y:nsFind Z2C "__init__"=none)
  (Z5f:D4 K mainGlobals "Barred"=some (some<|.ref Z0q))
  (Z5g:K.lookup Z0q=some (excClassObj Z9s Za3 Z0q Z7i Z9t [.ref Z04,.type "ValueError",.type "Exception",.type "BaseException",.type "object"] Z9v Z9x Z9u Z9w Z9y Z9z Z9A Z9B Z9C Z9D Z9E "ValueError.__new__"))
  (Z4C:CV K (.ref Z0q) "__getattribute__"=some (some<|.builtin "BaseException.__getattribute__")) (Z4D:CV K (.ref Z0q) "__getattr__"=some none) (Z4E:CV K (.ref Z0q) "__class__"=some (some<|.builtin "object.__class__"))
  (hn1:Kf K (.builtin "object.__class__") "__get__"=some (some<|.builtin "getset_descriptor.__get__")) (ht1:KY K (.builtin "object.__class__")=some true) (nd1:(Z04::[Z0a,Z0o,Z0l,Z0m,Z0n,Z0c,Z0d,Z0e,Z07,Z0p,Z09,Z08,Z0q]).Nodup)
  :∃fd:De,(∀(s:CH)(v:CD),JA s fd ⟨[v],[]⟩ [("_law_script",v)])/\∀base:Heap,K.In base->base.Ns mainGlobals mg->FnOk l.prog w K mg base CX0 27 fa fd ["_law_script"] (qK K):=by
 have e:=hfa.symm.trans<|Dt X G a_law;cases e;have Z4M:=jt (st:=tp 62) Z3e Z3f Z1N;have Z4N:=Z4M.binds (ps:=["_law_found","_law_due"]) fun _ _ _ _ _ _ us hl=>match us,hl with| [_,_],_=>rfl
 have F_law:=jt (st:=tp 65) l_law c_law k_law;have b_law:=F_law.binds (ps:=["_law_script"]) fun _ _ _ _ _ _ us hl=>match us,hl with| [_],_=>rfl
 have Z4F:=jt (st:=tp 63) Z2L Z2M Z21;have Z7l:=Z4F.binds (ps:=["_law_e"]) fun _ _ _ _ _ _ us hl=>match us,hl with| [_],_=>rfl
 have h_ValueError:=DB X G z_ValueError;have h_abs:=DB X G z_abs;have h_all:=DB X G z_all;have h_bool:=DB X G z_bool;have h_enumerate:=DB X G z_enumerate;have h_int:=DB X G z_int;have h_isinstance:=DB X G z_isinstance;have h_len:=DB X G z_len;have h_list:=DB X G z_list;have h_range:=DB X G z_range;have h_reversed:=DB X G z_reversed;have h_sorted:=DB X G z_sorted;have h_str:=DB X G z_str;have h_sum:=DB X G z_sum;have h_tuple:=DB X G z_tuple;have h_zip:=DB X G z_zip;have Z1J:=Dt X G Z5J;have Z4U:=Dt X G Z58;have Z4V:DictK K w Z1Q [(FE<|1,.str<|CI "s"),(FE<|-1,.str<|CI "z"),(FE<|0,.str<|CI "o")]:=⟨by decide,Z5a,by decide +kernel,_,_,Z59,(.cons ⟨gj _ _,rfl,⟨_,rfl⟩⟩<|.cons ⟨gj _ _,rfl,⟨_,rfl⟩⟩<|.cons ⟨gj _ _,rfl,⟨_,rfl⟩⟩ .nil)⟩
 have Z1b:=Dt X G Z5K;have Z1c:∀H,SqT K H Z11 [.int (0),.int<|0]:=fun H=>.inr ⟨_,_,_,Z5L,⟨rfl,rfl⟩,rfl,(by show 2<=sizeLine;decide),(.cons ⟨_,rfl⟩<|.cons ⟨_,rfl⟩ .nil)⟩;have Z5o:=Dt X G Z5M;have Z5p:DictK K w Z23 [(FF<|CI "f",.int<|1),(FF<|CI "b",.int<|-1),(FF<|CI "i",.int<|0)]:=⟨by decide,Z5O,by decide +kernel,_,_,Z5N,(.cons ⟨gk _ _,rfl,⟨_,rfl⟩⟩<|.cons ⟨gk _ _,rfl,⟨_,rfl⟩⟩<|.cons ⟨gk _ _,rfl,⟨_,rfl⟩⟩ .nil)⟩
 have Z5t:=Dt X G Z5P;have Z6j:=Dt X G Z7k;refine⟨ET "law" "law" (defArgs<|tp 65) (defBody<|tp 65) (defScope<|tp 65) .none kV_law dc_law pm_law an_law cd_law ct_law,fun s v=>.of_eq rfl,fun base KB _=>?_⟩;have Z1w:=Dt X G Z3l;have Z4O:XcK K Z04 Z3c vE:=⟨_,_,_,_,_,_,_,_,_,_,_,_,_,_,Z3m⟩
 have Z36:=Dt X G Z3o;have Z83:XcK K Z0a Z4L (.ref Z04::vE):=⟨_,_,_,_,_,_,_,_,_,_,_,_,_,_,Z3p⟩
 have Z4Q:=Dt X G Z5b;have Za4:XcK K Z0o Z6Y (.ref Z04::vE):=⟨_,_,_,_,_,_,_,_,_,_,_,_,_,_,Z5c⟩
 have Z4f:=Dt X G Z4t;have Z9F:XcK K Z0l Z5Q (.ref Z04::vE):=⟨_,_,_,_,_,_,_,_,_,_,_,_,_,_,Z4u⟩
 have Z4g:=Dt X G Z4v;have Z9G:XcK K Z0m Z5R (.ref Z04::vE):=⟨_,_,_,_,_,_,_,_,_,_,_,_,_,_,Z4w⟩
 have Z4h:=Dt X G Z4x;have Z9H:XcK K Z0n Z5S (.ref Z04::vE):=⟨_,_,_,_,_,_,_,_,_,_,_,_,_,_,Z4y⟩
 have Z3P:=Dt X G Z47;have Z8P:XcK K Z0c Z5l (.ref Z04::vE):=⟨_,_,_,_,_,_,_,_,_,_,_,_,_,_,Z48⟩
 have Z3Q:=Dt X G Z49;have Z8Q:XcK K Z0d Z5m (.ref Z04::vE):=⟨_,_,_,_,_,_,_,_,_,_,_,_,_,_,Z4a⟩
 have Z3R:=Dt X G Z4b;have Z8R:XcK K Z0e Z5n (.ref Z04::vE):=⟨_,_,_,_,_,_,_,_,_,_,_,_,_,_,Z4c⟩
 have Z2e:=Dt X G Z2h;have Z6f:XcK K Z07 Z4e (.ref Z04::vE):=⟨_,_,_,_,_,_,_,_,_,_,_,_,_,_,Z2i⟩
 have Z4R:=Dt X G Z5d;have Za5:XcK K Z0p Z6Z (.ref Z04::vE):=⟨_,_,_,_,_,_,_,_,_,_,_,_,_,_,Z5e⟩
 have Z2r:=Dt X G Z2S;have Z7m:XcK K Z09 Z4m (.ref Z04::vE):=⟨_,_,_,_,_,_,_,_,_,_,_,_,_,_,Z2T⟩
 have Z1v:=Dt X G Z3z;have Z4P:XcK K Z08 Z3d (.ref Z04::vE):=⟨_,_,_,_,_,_,_,_,_,_,_,_,_,_,Z3A⟩
 have Z4S:=Dt X G Z5f;have Za6:XcK K Z0q Z7i (.ref Z04::vE):=⟨_,_,_,_,_,_,_,_,_,_,_,_,_,_,Z5g⟩
 have Z:Kin K base [Z0a,Z0o,Z0l,Z0m,Z0n,Z0c,Z0d,Z0e,Z07,Z0p,Z09,Z08,Z0q] Z04:=Kin.of KB hn1 ht1 rfl nd1 Z4O (DO.mpr ⟨⟨⟨_,Z83⟩,Z2P,Z2Q,Z2R⟩,DO.mpr ⟨⟨⟨_,Za4⟩,Z4q,Z4r,Z4s⟩,DO.mpr ⟨⟨⟨_,Z9F⟩,Z3Y,Z3Z,Z40⟩,DO.mpr ⟨⟨⟨_,Z9G⟩,Z41,Z42,Z43⟩,DO.mpr ⟨⟨⟨_,Z9H⟩,Z44,Z45,Z46⟩,DO.mpr ⟨⟨⟨_,Z8P⟩,Z3q,Z3r,Z3s⟩,DO.mpr ⟨⟨⟨_,Z8Q⟩,Z3t,Z3u,Z3v⟩,DO.mpr ⟨⟨⟨_,Z8R⟩,Z3w,Z3x,Z3y⟩,DO.mpr ⟨⟨⟨_,Z6f⟩,Z28,Z29,Z2a⟩,DO.mpr ⟨⟨⟨_,Za5⟩,Z4z,Z4A,Z4B⟩,DO.mpr ⟨⟨⟨_,Z7m⟩,Z2j,Z2k,Z2l⟩,DO.mpr ⟨⟨⟨_,Z4P⟩,Z2U,Z2V,Z2W⟩,DO.mpr ⟨⟨⟨_,Za6⟩,Z4C,Z4D,Z4E⟩,fun _ h=>nomatch h⟩⟩⟩⟩⟩⟩⟩⟩⟩⟩⟩⟩⟩);have Z3a:Ecl base Z08:=Ecl.of KB Z4P Z4O Z3B rfl Z2X Z2Y Z3n rfl Z2N Z2O;have Z2y:CalH l.prog w K mg base "_law_kinds" ["_law_e"] 1 (gz K [Z0a,Z0o,Z0l,Z0m,Z0n,Z0c,Z0d,Z0e,Z07,Z0p,Z09,Z08,Z0q] Z04):=⟨Z1Y,_,vj Z4F h_isinstance h_ValueError Z36 Z4Q Z4f Z4g Z4h Z3P Z3Q Z3R Z2e Z4R Z2r Z1v Z4S Z1w,Dt X G Z2K,Z21,Z7l⟩
 have SA:∀n:Nat,Cal l.prog w K mg base "_law_same" ["_law_found","_law_due"] n (eR K n):=fun n=>by
  induction n with
  |zero=>exact⟨Z1M,_,xq,Dt X G Z2d,Z1N,Z4N⟩
  |succ n ih=>exact⟨Z1M,_,vm Z4M h_len h_isinstance h_bool h_int h_str h_list h_tuple h_zip ih,Dt X G Z2d,Z1N,Z4N⟩
 have Z0S:=SA 26;have Z0H:Cal l.prog w K mg base _ _ _ (bQ _ _ _ iw):=Z4n.cal X G fun F=>BW F h_len;have Z0P:Cal l.prog w K mg base _ _ _ (eF _ _ _ _ kH):=Z3U.cal X G fun F=>BX F h_abs h_range;have Z2s:Cal l.prog w K mg base _ _ _ (dD _ _ x4):=Z2D.cal X G fun F=>BY F Z0P;have Z2c:Cal l.prog w K mg base _ _ _ (dD _ _ vR):=Z3g.cal X G fun F=>BZ F Z2s;have Z2u:Cal l.prog w K mg base _ _ _ (bQ _ _ _ x5):=Z2E.cal X G fun F=>C0 F Z0P;have Z1A:Cal l.prog w K mg base _ _ _ (dD _ _ oj):=Z4o.cal X G fun F=>C1 F;have Z0Z:Cal l.prog w K mg base _ _ _ (bQ _ _ _ jh):=Z2f.cal X G fun F=>C2 F Z1A;have Z19:Cal l.prog w K mg base _ _ _ (bQ _ _ _ j6):=Z2F.cal X G fun F=>C3 F Z1A;have Z10:Cal l.prog w K mg base _ _ _ (bQ _ _ _ pb):=Z2g.cal X G fun F=>C4 F Z0Z Z19;have Z2v:Cal l.prog w K mg base _ _ _ (eF _ _ _ _ x6):=Z2G.cal X G fun F=>C5 F Z0P h_int h_len h_tuple h_zip;have Z1V:Cal l.prog w K mg base _ _ _ (dD _ _ x8):=Z1Z.cal X G fun F=>C6 F;have Z37:Cal l.prog w K mg base _ _ _ (dD _ _ x9):=Z3h.cal X G fun F=>C7 F;have Z38:Cal l.prog w K mg base _ _ _ (bQ _ _ _ xa):=Z3i.cal X G fun F=>C8 F h_range;have Z39:Cal l.prog w K mg base _ _ _ (bQ _ _ _ xb):=Z3j.cal X G fun F=>C9 F Z0Z h_sorted;have Z3S:Cal l.prog w K mg base _ _ _ (eF _ _ _ _ xc):=Z3V.cal X G fun F=>Ca F Z1V Z37 Z38 Z39 h_range;have Z2z:Cal l.prog w K mg base _ _ _ (bQ _ _ _ vS):=Z2H.cal X G fun F=>Cb F Z2c Z0H Z2u Z2v Z10 Z3S;have Z3T:Cal l.prog w K mg base _ _ _ (dD _ _ xf):=Z3W.cal X G fun F=>Cc F h_range;have Z3b:Cal l.prog w K mg base _ _ _ (gB _ _ _ _ _ _ xg):=Z3k.cal X G fun F=>Ce F Z10 Z19 h_abs h_int h_len h_zip;have Z26:Cal l.prog w K mg base _ _ _ (eF _ _ _ _ nP):=Z51.cal X G fun F=>Cf F h_abs;have Z1I:Cal l.prog w K mg base _ _ _ (bQ _ _ _ pf):=Z3X.cal X G fun F=>Cg F Z5o Z5p;have Z25:Cal l.prog w K mg base _ _ _ (eF _ _ _ _ vT):=Z27.cal X G fun F=>Ci F Z1I;have Z4k:Cal l.prog w K mg base _ _ _ (bQ _ _ _ xh):=Z4p.cal X G fun F=>Cj F Z1J;have C_top:Cal l.prog w K mg base _ _ _ (dD _ _ ij):=d_top.cal X G fun F=>AG F Z1J;have Z4T:Cal l.prog w K mg base _ _ _ (dD _ _ xi):=Z52.cal X G fun F=>Ck F Z1J;have Z2x:Cal l.prog w K mg base _ _ _ (bQ _ _ _ xj):=Z2I.cal X G fun F=>Cm F C_top Z4T Z1I Z4U Z4V;have Z5r:Cal l.prog w K mg base _ _ _ (bQ _ _ _ vU):=Z5H.cal X G fun F=>Cn F Z6j;have Z4W:Cal l.prog w K mg base _ _ _ (bQ _ _ _ xl):=Z53.cal X G fun F=>Co F Z5r h_all h_zip;have Z4X:Cal l.prog w K mg base _ _ _ (gQ _ _ _ _ _ vh):=Z54.cal X G fun F=>Cp F Z4W Z2x Z4k;have Z1m:Cal l.prog w K mg base _ _ _ (gB _ _ _ _ _ _ gA):=Z55.cal X G fun F=>Cq F Z25 Z26 Z4X Z5t;have Z1X:Cal l.prog w K mg base _ _ _ (gB _ _ _ _ _ _ ph):=Z20.cal X G fun F=>Cr F Z1m h_sorted;have Z4Y:Cal l.prog w K mg base _ _ _ (gQ _ _ _ _ _ xm):=Z56.cal X G fun F=>Cs F Z26 Z1X Z1b Z1c;have Z2q:Cal l.prog w K mg base _ _ _ (gQ _ _ _ _ _ pj):=Z5I.cal X G fun F=>Ct F Z4Y Z1m h_len h_range h_reversed h_sum;have Z6l:Cal l.prog w K mg base _ _ _ (gQ _ _ _ _ _ xo):=Z7j.cal X G fun F=>Cu F Z2q Z1b Z1c;have Z50:Cal l.prog w K mg base _ _ _ (eF _ _ _ _ pq):=Z57.cal X G fun F=>Cv F;have C_way:CalR l.prog w K mg base _ _ _ (um (qA K) (qD K) isI isI isI [Z0a,Z0o,Z0l,Z0m,Z0n,Z0c,Z0d,Z0e,Z07,Z0p,Z09,Z08,Z0q] (rs isS) cV):=d_way.calR X G fun F=>AH F Z2q Z50 Z1m h_enumerate Z1b Z1c Z1v Z3a;have Z2A:Cal l.prog w K mg base _ _ _ (gB _ _ _ _ _ _ nR):=Z2J.cal X G fun F=>Cw F C_way Z Z1w Z2y;exact FnOk.imp (AI F_law Z2z Z0H Z3T Z3b Z0S Z6l C_way Z2A h_enumerate h_len h_list) xJ
theorem walk{l:Hj}{q:CT}{loose:List Str}{XP:(Str->Option CD)->Heap->Prop}{YP:D6->Heap->Prop}{d:DefRec}{K:MS->CF}(hn:l.most=some 63)(hdf:d.params.defaults=[])(hY:∀(w:D6)(h:Heap),YP w h->(K w.params).In h)
  (F:∀(w:D6)(mg:Str->Option CD)(fa:Addr)(h:Heap),(K w.params).In h->h.Ns mainGlobals mg->mg d.name=some (.ref fa)->∃fd:De,(∀(s:CH)(u:CD),JA s fd ⟨[u],[]⟩ [("_law_script",u)])/\∀base:Heap,(K w.params).In base->base.Ns mainGlobals mg->FnOk l.prog w (K w.params) mg base CX0 27 fa fd ["_law_script"] (qK<|K w.params)):
  La q loose XP YP l.row.toRowW d [] (fun f vs=>Li f vs):=
 L2.walk_of (n:=63) (k:=27) (x:="_law_script") (CX:=fun _=>CX0) (sp:=fun w=>qK<|K w.params) hn (by decide) hdf ⟨rfl,by decide,by decide⟩ hY F (fun _ _ a ns hl _ hS=>⟨a,ns,rfl,hS,hl,fun _=>rfl⟩) fun _ _ _ _ _ z=>z
end Wb
local macro_rules | `(tactic| walk_at "D") => `(tactic| (apply Wb.DI.mk; (case da => k_is); (case dl => k_is); (case dc => k_is); (case dk => k_is); exact fun _ _ _ _ _ _ _ => rfl))
open PySem PySem.W PyProof.Rows
set_option maxRecDepth 100000 in
set_option maxHeartbeats 0 in
theorem PySem.Challenge.cw_wornband_k31_ways_counted_holds : PySem.Challenge.rw_wornband_k31_ways_counted.Holds := by
 refine hd ?_
 k_fill
 refine Wb.walk (l:=EM) rfl rfl (fun w h Y=>PySem.W.kIn_of Y) ?F
 case F=>
  intro w mg fa h KX G hmg
  refine' Wb.fin_mk KX G hmg ?Z2d ?Z3e ?Z3f ?Z1N ?Z4n ?Z3U ?Z2D ?Z3g ?Z2E ?Z4o ?Z2f ?Z2F ?Z2g ?Z2G ?Z1Z ?Z3h ?Z3i ?Z3j ?Z3V ?Z2H ?Z3W ?Z3k ?Z51 ?Z3X ?Z27 ?Z4p ?d_top ?Z52 ?Z2I ?Z5H ?Z53 ?Z54 ?Z55 ?Z20 ?Z56 ?Z5I ?Z7j ?Z57 ?d_way ?Z2J ?a_law ?l_law ?c_law ?k_law ?Z2K ?Z2L ?Z2M ?Z21 ?z_ValueError ?z_abs ?z_all ?z_bool ?z_enumerate ?z_int ?z_isinstance ?z_len ?z_list ?z_range ?z_reversed ?z_sorted ?z_str ?z_sum ?z_tuple ?z_zip ?Z5J ?Z58 ?Z59 ?Z5a ?Z5K ?Z5L ?Z5M ?Z5N ?Z5O ?Z5P ?Z7k ?Z3l ?Z3m ?Z3n ?Z2N ?Z2O ?Z3o ?Z3p ?Z2P ?Z2Q ?Z2R ?Z5b ?Z5c ?Z4q ?Z4r ?Z4s ?Z4t ?Z4u ?Z3Y ?Z3Z ?Z40 ?Z4v ?Z4w ?Z41 ?Z42 ?Z43 ?Z4x ?Z4y ?Z44 ?Z45 ?Z46 ?Z47 ?Z48 ?Z3q ?Z3r ?Z3s ?Z49 ?Z4a ?Z3t ?Z3u ?Z3v ?Z4b ?Z4c ?Z3w ?Z3x ?Z3y ?Z2h ?Z2i ?Z28 ?Z29 ?Z2a ?Z5d ?Z5e ?Z4z ?Z4A ?Z4B ?Z2S ?Z2T ?Z2j ?Z2k ?Z2l ?Z3z ?Z3A ?Z2U ?Z2V ?Z2W ?Z3B ?Z2X ?Z2Y ?Z5f ?Z5g ?Z4C ?Z4D ?Z4E ?hn1 ?ht1 ?nd1
  (case Z2d=>k_is)
  (case Z3e=>k_is)
  (case Z3f=>k_is)
  (case Z1N=>k_is)
  (case Z4n=>walk_at "D")
  (case Z3U=>walk_at "D")
  (case Z2D=>walk_at "D")
  (case Z3g=>walk_at "D")
  (case Z2E=>walk_at "D")
  (case Z4o=>walk_at "D")
  (case Z2f=>walk_at "D")
  (case Z2F=>walk_at "D")
  (case Z2g=>walk_at "D")
  (case Z2G=>walk_at "D")
  (case Z1Z=>walk_at "D")
  (case Z3h=>walk_at "D")
  (case Z3i=>walk_at "D")
  (case Z3j=>walk_at "D")
  (case Z3V=>walk_at "D")
  (case Z2H=>walk_at "D")
  (case Z3W=>walk_at "D")
  (case Z3k=>walk_at "D")
  (case Z51=>walk_at "D")
  (case Z3X=>walk_at "D")
  (case Z27=>walk_at "D")
  (case Z4p=>walk_at "D")
  (case d_top=>walk_at "D")
  (case Z52=>walk_at "D")
  (case Z2I=>walk_at "D")
  (case Z5H=>walk_at "D")
  (case Z53=>walk_at "D")
  (case Z54=>walk_at "D")
  (case Z55=>walk_at "D")
  (case Z20=>walk_at "D")
  (case Z56=>walk_at "D")
  (case Z5I=>walk_at "D")
  (case Z7j=>walk_at "D")
  (case Z57=>walk_at "D")
  (case d_way=>walk_at "D")
  (case Z2J=>walk_at "D")
  (case a_law=>k_is)
  (case l_law=>k_is)
  (case c_law=>k_is)
  (case k_law=>k_is)
  (case Z2K=>k_is)
  (case Z2L=>k_is)
  (case Z2M=>k_is)
  (case Z21=>k_is)
  (case z_ValueError=>k_is)
  (case z_abs=>k_is)
  (case z_all=>k_is)
  (case z_bool=>k_is)
  (case z_enumerate=>k_is)
  (case z_int=>k_is)
  (case z_isinstance=>k_is)
  (case z_len=>k_is)
  (case z_list=>k_is)
  (case z_range=>k_is)
  (case z_reversed=>k_is)
  (case z_sorted=>k_is)
  (case z_str=>k_is)
  (case z_sum=>k_is)
  (case z_tuple=>k_is)
  (case z_zip=>k_is)
  (case Z5J=>k_is)
  (case Z58=>k_is)
  (case Z59=>k_is)
  (case Z5a=>rfl)
  (case Z5K=>k_is)
  (case Z5L=>k_is)
  (case Z5M=>k_is)
  (case Z5N=>k_is)
  (case Z5O=>rfl)
  (case Z5P=>k_is)
  (case Z7k=>k_is)
  (case Z3l=>k_is)
  (case Z3m=>k_is)
  (case Z3n=>k_is)
  (case Z2N=>exact Wb.strKeys_of rfl)
  (case Z2O=>first|rfl|kernel_rfl)
  (case Z3o=>k_is)
  (case Z3p=>k_is)
  (case Z2P=>k_is)
  (case Z2Q=>k_is)
  (case Z2R=>k_is)
  (case Z5b=>k_is)
  (case Z5c=>k_is)
  (case Z4q=>k_is)
  (case Z4r=>k_is)
  (case Z4s=>k_is)
  (case Z4t=>k_is)
  (case Z4u=>k_is)
  (case Z3Y=>k_is)
  (case Z3Z=>k_is)
  (case Z40=>k_is)
  (case Z4v=>k_is)
  (case Z4w=>k_is)
  (case Z41=>k_is)
  (case Z42=>k_is)
  (case Z43=>k_is)
  (case Z4x=>k_is)
  (case Z4y=>k_is)
  (case Z44=>k_is)
  (case Z45=>k_is)
  (case Z46=>k_is)
  (case Z47=>k_is)
  (case Z48=>k_is)
  (case Z3q=>k_is)
  (case Z3r=>k_is)
  (case Z3s=>k_is)
  (case Z49=>k_is)
  (case Z4a=>k_is)
  (case Z3t=>k_is)
  (case Z3u=>k_is)
  (case Z3v=>k_is)
  (case Z4b=>k_is)
  (case Z4c=>k_is)
  (case Z3w=>k_is)
  (case Z3x=>k_is)
  (case Z3y=>k_is)
  (case Z2h=>k_is)
  (case Z2i=>k_is)
  (case Z28=>k_is)
  (case Z29=>k_is)
  (case Z2a=>k_is)
  (case Z5d=>k_is)
  (case Z5e=>k_is)
  (case Z4z=>k_is)
  (case Z4A=>k_is)
  (case Z4B=>k_is)
  (case Z2S=>k_is)
  (case Z2T=>k_is)
  (case Z2j=>k_is)
  (case Z2k=>k_is)
  (case Z2l=>k_is)
  (case Z3z=>k_is)
  (case Z3A=>k_is)
  (case Z2U=>k_is)
  (case Z2V=>k_is)
  (case Z2W=>k_is)
  (case Z3B=>k_is)
  (case Z2X=>exact Wb.strKeys_of rfl)
  (case Z2Y=>first|rfl|kernel_rfl)
  (case Z5f=>k_is)
  (case Z5g=>k_is)
  (case Z4C=>k_is)
  (case Z4D=>k_is)
  (case Z4E=>k_is)
  (case hn1=>k_is)
  (case ht1=>k_is)
  (case nd1=>decide)
