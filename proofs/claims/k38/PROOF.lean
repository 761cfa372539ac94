import PyProof.Rows.All
import Wide.All
import OpenK.AllK
import Wide.FinOn
import PyProof.EqAt
import PyProof.EqKinds
import PyProof.TupleCall
import KE.KDictSum
import KE.KRevIter
import KE.KRevSl
import KE.KDictLaws
import PyProof.StrLawsFirst
import KE.LcSums
import PyProof.EnumMake
import PyProof.TupleIter
import PyProof.StationsW
import PyProof.Rows.Own
import PyProof.NsDelKeeps
import PyProof.RulesAs
import PyProof.ExcAttrAll.ValueError
import KE.KIsAll
import PyProof.ExcBaseAll.ValueError
import PyProof.Rows.FStr
import PyProof.FString
import PyProof.Rows.StrNews
import PyProof.StrLawsTight
import PyProof.StrLawsChain
import PyProof.ExcInit
import PyProof.ExcClass3
import PyProof.InstStoreFacts
import PySem.SetTable
import PySem.SetOps
import PyProof.TupleKey
import PyProof.SetKind
import PyProof.IsRules
import KE.KSortTup
import PyProof.Rows.SortRun
import PyProof.Rows.SortShell
import PyProof.DictWalks
import PyProof.DictTruth
import PyProof.NeKinds
import PyProof.Rows.TupTab
import PySem.Challenge.RW_wornband_k38_whole_restoring
open And renaming intro->LA
open Array renaming getElem?_toList->DX,getElem?_eq_getElem->E7,length_toList->Eu,getD_eq_getD_getElem?->EL,toList_append->EM,getElem?_eq_some_iff->G0,toList_push->Gg,getD->Gj,getElem?_eq_none->Hg,toList_setIfInBounds->Hz,toList_eraseIdxIfInBounds->Ih,toList_reverse->ID,size_setIfInBounds->JF,replicate->K8,forIn_toList->L8,toList_map->LC,toList_inj->LG,toList->MV
open Bool renaming false_ne_true->E3,false_eq_true->ED,eq_iff_iff->FA,true_and->Gd,and_eq_true->GN,false_and->J3,noConfusion->JQ,or_eq_true->LQ,and_assoc->Mf,not_true->MM
open Classical renaming not_forall->IA,byContradiction->Jj,not_imp->Js,not_not->Jx
open False renaming elim->Ha
open ForInStep renaming done->Ei,yield->Et
open Int renaming emod_lt_of_pos->Ew,emod_nonneg->EN,toNat_natCast->Fj,le_refl->Kz,toNat_of_nonneg->KD,emod_eq_of_lt->Ls,ediv_one->N0
open List renaming getElem?_eq_getElem->DO,getElem?_eq_some_iff->DR,getElem?_map->DU,size_toArray->DY,mem_cons->E1,mem_cons_self->E5,mem_cons_of_mem->E9,getElem?_append_right->Ea,append_assoc->Eb,getElem?_append_left->Ef,mem_of_getElem?->Ek,length_map->El,mem_append_right->Eo,mem_map->Ex,not_mem_nil->EA,getElem?_take_of_lt->EC,mem_append->EI,nodup_iff_pairwise_ne->ES,map_cons->EY,getElem?_drop->EZ,getElem?_eq_none->F0,range->F2,getD_eq_getElem?_getD->Ff,Nodup->Fg,getElem?_eq_none_iff->Fn,pairwise_append->Fy,getElem?_zip_eq_some->FE,drop_eq_getElem_cons->FF,ext_getElem?->FJ,find?_cons->FP,lookup_cons->FU,map_map->FX,nodup_cons->G1,length_zip->G2,pairwise_iff_getElem->G4,length_append->G5,all_eq_true->G8,getElem_mem->G9,mem_reverse->Ga,mem_iff_getElem->Ge,append_nil->Gi,getElem?_range->Gm,mem_iff_getElem?->Gw,getElem?_reverse->Gx,perm_append_comm->Gy,of_mem_zip->GB,pairwise_map->GD,filterMap_cons->GK,length_eq_zero_iff->GO,drop_length->GS,getElem?_cons_succ->GV,getElem?_cons_zero->GW,length_cons->GY,length->H0,take_of_length_le->He,mem_singleton->Hh,mem_range->Ht,replicate->Hw,nodup_nil->HC,zipIdx_cons->HG,any_cons->HJ,length_erase_of_mem->HL,forIn_cons->HP,mem_filterMap->HQ,pairwise_singleton->HW,forIn_nil->Ia,drop_eq_nil_of_le->Ib,mem_of_mem_erase->Ij,length_take->Im,mem_append_left->Iu,eq_nil_of_length_eq_zero->IF,foldl_cons->IK,zipIdx_nil->IM,length_reverse->IT,findSome?_cons->IU,drop_zero->J6,pairwise_cons->Jb,zip_cons_cons->Je,mem_or_eq_of_mem_set->Jl,length_range->Jt,nodup_append->Jw,all_cons->JA,filterMap_cons_some->JD,sum_cons->JI,pairwise_mergeSort->JM,any_eq_true->JP,getElem?_set_self->JT,pairwise_lt_range->K1,mem_filter->K4,length_singleton->Kb,getElem?_zipWith->Kd,take_append_drop->Kf,length_filter_le->Kl,dropLast_eq_take->Km,contains_iff_mem->Kn,getElem?_set_ne->Ko,length_eraseIdx->Ky,map_congr_left->KC,mergeSort_perm->KG,reverse_append->KH,lookup_append->L5,map_nil->Lg,reverse_cons->Lk,length_drop->Ly,perm_middle->LD,map_snd_zip->LH,length_set->LO,map_append->LU,nil_append->LW,drop_drop->Ma,map_id->Nj,map->NS
open List.Nodup renaming not_mem_erase->HK,length_le_of_subset->Iq
open List.Pairwise renaming nil->Hn,map->NJ
open List.Perm renaming append_right->Fo,append_left->Fu,eq_of_pairwise->JB
open Nat renaming le_refl->DQ,lt_of_lt_of_le->DV,ne_of_lt->Ed,zero_le->Eh,le_add_right->Fe,lt_irrefl->Fi,le_trans->FO,zero_add->Gp,ne_of_gt->Hc,le_of_lt->HE,lt_succ_self->HF,sub_self->Ic,mod_lt->Ja,add_sub_cancel->Jf,lt_succ_of_lt->Jq,le_succ->Jr,lt_trans->JY,div_div_eq_div_mul->K0,le_succ_of_le->Lq,div_eq_of_lt->LB,strongRecOn->LS,not_lt_zero->LY,add_assoc->MO,add_comm->MY,sub_zero->MZ,lt_or_ge->N1
open Ne renaming symm->HN
open Option renaming map_eq_some_iff->EO,getD_some->Gs,map_some->Hj,ne_none_iff_exists'->J8,isSome_iff_exists->Jy,getD_none->JK,isSome->KN,isSome_some->L3,isSome_map->Lr
open Option.some renaming inj->Es
open Or renaming inr->M7,inl->MW
open Prod renaming ext->J9
open Prod.mk renaming injEq->MS
open PyProof.Rows renaming wpS_bind->DT,wpS_pure->DZ,Keyed->E2,boot_isinstance->Ej,callWith_type1->F6,wpS_forRange->F9,boot_list->FD,SortSt->FI,wpS_modify->FQ,boot_tuple->Gh,boot_int->Gz,wpS_mono->GX,boot_abs->Hl,mem_zip_self->HH,wpS_get->Ig,SortKind->IB,AllBare->Jn,boot_sorted->JG,wpS_lift->JO,subscriptTail_builtinR->JV,boot_bool->K2,boot_all->Kk,listUpdate_at->KQ,Subscript_->KY,IntsAre->Lf,callWith_builtin1->Lx,seqEpoch_at->LM,boot_sum->N3,boot_str->N5,Call_->Nc,tail_any->Nd,TupTab->Nn
open PyProof.Rows.SortSt renaming mk'->HB
open PySem renaming wpAny_bind->DF,wpAny_pure->DL,Value->DM,Shared->DN,Program->E4,World->E8,FuncData->Ee,Spec->Em,Around->EB,wpAny_call_entry->EH,boot_len->EK,wpAny_seqItems->ER,wpAny_callSpecial?_slot->ET,wpAny_setField_rec->EU,wpAny_field->EW,sizeLine_eq->F3,wpAny_newObj_type->F4,wpAny_mono->F5,SetTable->Fb,Builtin->Fw,wpAny_holding->Fz,mem_of_lookup->FG,wpAny_setState_of->FK,wpAny_rule->G6,wpAny_isInstance->G7,wpAny_onRaise->Gb,wpAny_typeNameOfWhole_keyiter->Gf,wpAny_standAt->Gq,wpAny_attempt->Gr,IsTupleKey->Gv,wpAny_passesOwn->GA,DictEntry->GC,wpAny_comprehension_free->GF,wpAny_typeNameOf_keyiter->GG,NameKind->GL,wpAny_setField->GP,isSubtype_stop->GR,wpAny_askSetting->GU,IsZip->H9,Scope->Hi,wpAny_truthy_bool->Hm,wpAny_letGo->Hy,IsPair->HS,tupleKind_room_in1->HV,wpAny_pyIter_rangeiter->HY,wpAny_pyIter_slot->Ie,wpAny_pyIter_zip->Io,wpAny_updateSeq_pair->Iz,wpAny_execs_nil->II,wpAny_specialOf->IJ,pushCells_keeps->IL,wpAny_ite_split->IP,wpAny_setEntries_of->IW,codeAny_mono->IX,wpAny_Call_Name_kw->J4,wpAny_fieldsOf->Jd,wpAny_letOwnedTupleGo_zip->Ji,wpAny_pyIter_list->Jo,slot_list_getitem->Jp,wpAny_dictEntries->Ju,wpAny_getItem_list_slice->Jz,Comprehension->JC,wpAny_eqBool_int->JJ,wpAny_forIn_list->JN,wpAny_pyNext_range_end->JU,Keyword->JW,wpAny_Call_method_late->JX,Model->K5,Draws->K6,signature?_of->K7,wpAny_dictEpoch->K9,wpAny_isSame_ref_self->Ke,builtinLookup_eq_fast->Kg,wpAny_isOneOf_keyiter->Ki,wpAny_loadName_local->Kp,IsRangeIter->Kq,sliceRange_one->Kt,wpAny_of_eq->Kv,wpAny_newTuple->Kw,isSubtype_type->Kx,wpAny_loadName_cell->KA,evalPart_none->KI,wpAny_handled->KL,wpAny_pyIter_tuple->KU,wpAny_pyIter_ascii->L4,wpAny_assign_Name->La,BindsTo->Le,seqIndex_neg->Lh,wpAny_pyIter_wide->Li,wpAny_pyIter_enum->Lj,wpAny_storeSet_of->Ln,wpAny_execs_cons->Lv,seqIndex_of->LJ,wpAny_throw->LK,wpAny_loadPart'->LN,typeLookup_type->LV,wpAny_Name->M1,Result->M4,typeIs_str->M5,call->M6,entryFor_alias->Mb,intBits_le_64->Mv,call_list_seq->MI,wpAny_newList->MP,Within->MU,CellsOk->MX,Operator->Na,putAt->Nk,Params->NC
open PySem.Builtin.Dict renaming showsAll->Kh,dictSlotNone->Ms
open PySem.Builtin.Dict_items renaming ownsTuple->IQ
open PySem.Builtin.Frozenset renaming oneOther->Mc,sizeOf->MN,addrOf->MQ,slot0->MT
open PySem.Builtin.List renaming listLengthHint->IY
open PySem.Builtin.Range renaming rangeFitsLong->F7,rangeSize->Fd,rangeFields->Jk
open PySem.Builtin.SmallTypes renaming nextOf->Eg,ownedTupleIsFree->Ey,ownedTupleHandOut->FH,refuseKeywords->L9
open PySem.Builtin.Str renaming strSliceIndices->FV,tooLong->Nz
open PySem.Calls renaming Name_function_global->IZ,spliced_cons->KW,spliced_nil->Ld
open PySem.Challenge renaming rw_wornband_k38_whole_restoring->FL,pw_wornband_k38_whole_restoring->Jv
open PySem.Data renaming cell->Hk,fields->Iw,seq->Ku
open PySem.EqMixed renaming eq_bool_str->Ml,eq_str_bool->Mm,ne_bool_str->Mq,ne_str_bool->Mr,eq_int_str->Mz,eq_str_int->MB,ne_int_str->MF,ne_str_int->MH
open PySem.EqNone renaming eq_none_none->Mh,eq_none_bool->Mj,eq_bool_none->Mk,ne_none_none->Mn,ne_none_bool->Mo,ne_bool_none->Mp,eq_none_int->Mw,eq_none_str->Mx,eq_int_none->My,eq_str_none->MA,ne_none_int->MC,ne_none_str->MD,ne_int_none->ME,ne_str_none->MG
open PySem.F renaming slot_dict_keyiterator_next->Fq,slot_zip_next->Ft,slot_tuple_iterator_next->FY,args_zip_next_1->GQ,entry_zip_next->Hf,args_tuple_iterator_next_1->HR,entry_tuple_iterator_next->HX,args_dict_keyiterator_next_1->Ip,entry_dict_keyiterator_next->IE,slot_dict_keyiterator_iter->IS,slot_dict_getitem->Jh,plainAttrs_str->JZ,slot_list_append->Ka,entry_zip_new->Kc,slot_range_reversed->Kj,called_zip->L7,slot_dict_iter->LI,slot_set_iter->LX
open PySem.Heap renaming get?_push_of_some->DH,get?_push_size->DS,lt_size->DW,SameBut->E6,size_push->EX,get?_update_self->FN,ExtBut->Hx,get?_update_other->I9,get?_push_ne->Lp,size_update->LF
open PySem.Heap.IsSliceOf renaming new->KZ
open PySem.Heap.Ns renaming new->Ni
open PySem.Heap.SameBut renaming update->F8
open PySem.IsRange renaming new->Nb
open PySem.NameKind renaming free->Fs,cell->KJ
open PySem.Obj renaming mapSeq->Gu,putSet->Jc,mapFields->JE,data_mapFields->L6
open PySem.PassesOwn renaming never->Ec
open PySem.PyData renaming keyHash->IG
open PySem.SeqAt renaming EqAt->L0,notIn_listAt->L1
open PySem.SeqAt.EqAt renaming int_int->J5,int_str->KR,str_int->KS,same->LP,none_bool->Nf,bool_none->Ng,bool_bool->Nh,none_int->Np,none_str->Nq,bool_int->Nr,bool_str->Nt,int_none->Nu,int_bool->Nv,str_none->Nw,str_bool->Ny,str_str->NB,of_refs->NG
open PySem.SeqAt.RcAt renaming lists_lengths->MR,tuples->NK,lists->NP
open PySem.SeqAt.RcNeAt renaming lists_lengths->Me,lists->NF
open PySem.SetTable renaming leap->Ep,bits->Ez,runEnd->EJ,below->Fp,insertAt->Fv,turns->Fx,grown->HA,sizeAbove->HU,fill->KO,has->Lm,fresh->Md,slot->MJ,laid->MK,fits->ML
open PySem.SetTable.below renaming go->Ho
open PySem.SetTable.layClean renaming free->FZ
open PySem.SetTable.probe renaming go->Hq
open PySem.Str renaming ofString->DP,length->NA
open PySem.Txt renaming find->J7,slice->Lz,mul->NI
open PySem.Value renaming ref->F1,none->Fc,int->HD,type->Il,str->Lu,bool->M0,isStrOf->Mt,isInt->N6,float->N9
open PySem.W renaming Frag->DJ,nsIn->EE,mg_none_of->EF,kia_one->FC,fnOf->Gn,mg_of->GH,kitOne->Hu,keepIn->Hv,cellsFrom_some->HZ,codeIn->I0,OpenLaw->Iy,methodObj->Jm,instObj->K3,lookIn->Kr,kitx_list->Lb,kitx_dict->Lc,looks_findIn->Ll,plainGet->Lw,looks_mroIn->LL,WalkO->LZ,findIn->M3,looks_find->M8
open PySem.W.WData renaming int->NO
open PySem.W.WShape renaming has->ND
open PySem.pickOrder renaming go->Lo
open Sum renaming inl->GI,inr->GJ
open Sum.inl renaming inj->N7
open Sum.inr renaming inj->N8
open True renaming intro->Hd
set_option Elab.async false
set_option linter.all false
set_option maxRecDepth 100000
namespace L2
open PySem PySem.Spec PyProof.Rows
abbrev Key:=Sum Int Str
def fP:Key->DM->Bool
 | .inl k,v=>N6 k v
 | .inr x,v=>Mt x v
def sZ(w:E8):Key->Int
 | .inl k=>hashInt k
 | .inr x=>hashStr w x
theorem bF:∀{k:Key}{v:DM},fP k v=true->(∃i t,k=GI i/\v=HD i t)\/(∃x t,k=GJ x/\v=Lu x t)
 | .inl i,v,h=>by
  obtain⟨t,e⟩:=Value.isInt_shape (k:=i) (v:=v) h;exact .inl ⟨i,t,rfl,e⟩
 | .inr x,v,h=>by
  obtain⟨t,e⟩:=Value.isStrOf_shape (x:=x) (v:=v) h;exact .inr ⟨x,t,rfl,e⟩
theorem gk(i:Int)(t:Tok):fP (.inl i) (.int i t)=true:=by simp[fP,N6]
theorem gm(x:Str)(t:Tok):fP (.inr x) (.str x t)=true:=by simp[fP,Mt]
theorem yJ(a b:Int):decide ((GI a:Key)=GI b)=(a==b):=by
 by_cases e:a=b;·subst e;simp
 ·have h:¬(GI a:Key)=GI b:=fun q=>e<|N7 q;rw[decide_eq_false h];exact(beq_eq_false_iff_ne.mpr e).symm
theorem yK(a b:Str):decide ((GJ a:Key)=GJ b)=decide (a=b):=by
 by_cases e:a=b;·subst e;simp
 ·have h:¬(GJ a:Key)=GJ b:=fun q=>e<|N8 q;rw[decide_eq_false h,decide_eq_false e]
theorem yL(a:Int)(b:Str):decide ((GI a:Key)=GJ b)=false:=decide_eq_false (fun q=>nomatch q)
theorem yM(a:Str)(b:Int):decide ((GJ a:Key)=GI b)=false:=decide_eq_false (fun q=>nomatch q)
def mixKind(prog:E4)(w:E8):PySem.KeyKind prog w Key where
 is:=fP
 hash:=sZ w
 inj:=fun v a b ha hb=>by
  rcases bF ha with⟨i,t,rfl,rfl⟩|⟨x,t,rfl,rfl⟩
  ·rcases bF hb with⟨j,u,rfl,e⟩ | ⟨y,u,rfl,e⟩
   ·injection e with e1 _;rw[e1]
   ·exact nomatch e
  ·rcases bF hb with⟨j,u,rfl,e⟩ | ⟨y,u,rfl,e⟩
   ·exact nomatch e
   ·injection e with e1 _;rw[e1]
 byValue:=fun k v h=>by
  rcases bF h with⟨i,t,rfl,rfl⟩|⟨x,t,rfl,rfl⟩<;>rfl
 pyHash:=fun hv h=>by
  rcases bF hv with⟨i,t,rfl,rfl⟩|⟨x,t,rfl,rfl⟩
  ·exact wpAny_pyHash_int h
  ·exact wpAny_pyHash_str h
 eqBool:=fun hu hv h=>by
  rcases bF hu with⟨i,t,rfl,rfl⟩|⟨x,t,rfl,rfl⟩
  ·rcases bF hv with⟨j,u,rfl,rfl⟩ | ⟨y,u,rfl,rfl⟩
   ·rw[yJ]at h;exact JJ h
   ·rw[yL]at h;exact KR i t y u _ _ _ _ h
  ·rcases bF hv with⟨j,u,rfl,rfl⟩ | ⟨y,u,rfl,rfl⟩
   ·rw[yM]at h;exact KS x t j u _ _ _ _ h
   ·rw[yK]at h;exact wpAny_eqBool_str h
 «strs»:=fun k x t v h=>by
  rcases bF h with⟨i,u,rfl,e⟩|⟨y,u,rfl,e⟩
  ·exact nomatch e
  ·injection e with e1 _;subst e1;cases v<;>rfl
theorem mL(prog:E4)(w:E8)(i:Int)(t:Tok):(mixKind prog w).is (.inl i) (.int i t)=true:=gk i t
theorem mM(prog:E4)(w:E8)(x:Str)(t:Tok):(mixKind prog w).is (.inr x) (.str x t)=true:=gm x t
inductive V where
 |non|bl (b:Bool)|int (i:Int)|str (x:Str)|byt (b:Array UInt8)|flt (b:UInt64)|ref (a:Addr)|ty (n:String)
 deriving DecidableEq
def RelV:V->DM->Prop
 | .non,u=>u=Fc
 | .bl b,u=>u=M0 b
 | .int i,u=>∃t,u=HD i t
 | .str x,u=>∃t,u=Lu x t
 | .byt b,u=>∃t,u=Value.bytes b t
 | .flt b,u=>∃t,u=N9 b t
 | .ref a,u=>u=F1 a
 | .ty n,u=>u=Il n
abbrev Vals:List V->List DM->Prop:=Paired RelV
theorem Vals.length{xs:List V}{us:List DM}(r:Vals xs us):xs.length=us.length:=Paired.length r
theorem Vals.get:∀{xs:List V}{us:List DM}{i:Nat}{x:V},Vals xs us->xs[i]? =some x->∃u,us[i]? =some u/\RelV x u
 |_,_,_,_,.nil,e=>by simp at e
 |_,_,0,_,.cons r _,e=>by simp at e;subst e;exact⟨_,rfl,r⟩
 |_,_,i+1,x, .cons _ t,e=>by
  obtain⟨u,h1,h2⟩:=Vals.get (i:=i) (x:=x) t (by simpa using e);exact⟨u,by simpa using h1,h2⟩
theorem Vals.set{x:V}{u:DM}(r:RelV x u):∀{xs:List V}{us:List DM}(i:Nat),Vals xs us->Vals (xs.set i x) (us.set i u)
 |_,_,_,.nil=>.nil
 |_,_,0,.cons _ t=>.cons r t
 |_,_,i+1,.cons q t=>.cons q<|Vals.set r i t
theorem Vals.append:∀{xs ys:List V}{us ws:List DM},Vals xs us->Vals ys ws->Vals (xs++ys) (us++ws)
 |_,_,_,_,.nil,s=>s
 |_,_,_,_,.cons r t,s=>.cons r<|Vals.append t s
theorem Vals.take:∀{xs:List V}{us:List DM}(n:Nat),Vals xs us->Vals (xs.take n) (us.take n)
 |_,_,0,_=>.nil
 |_,_,_+1,.nil=>.nil
 |_,_,n+1,.cons r t=>.cons r<|Vals.take n t
theorem Vals.drop:∀{xs:List V}{us:List DM}(n:Nat),Vals xs us->Vals (xs.drop n) (us.drop n)
 |_,_,0,r=>r
 |_,_,_+1,.nil=>.nil
 |_,_,n+1,.cons _ t=>Vals.drop n t
def RelO:Option V->Option DM->Prop
 |some v,some u=>RelV v u
 |none,none=>True
 |_,_=>False
def KV{κ:Type}:List (κ×V)->List (κ×DM)->Prop:=Paired fun(p:κ×V)(q:κ×DM)=>p.1=q.1/\RelV p.2 q.2
def kV:Key->V
 | .inl i=>.int i
 | .inr x=>.str x
inductive HO where
 |lst (xs:List V)
 |tup (xs:List V)
 |dK (kvs:List (Key×V))|dT (kvs:List (List Key×V))
 |set (S:Int->Bool) (n:Nat)
 |ins (C dx:Addr) (fs:List (Str×V))
 |own (x:Addr)
 |xd (fs:List (Str×V))
 |met (f x:Addr)
 |rng (lo hi:Int)
 |frz (o:Obj) (u:HO)
 |tbl (ps:Array DM)
 |ext (φ:Heap->Prop)
abbrev Hp:=Addr->Option HO
def cn(H:Hp)(a:Addr)(o:HO):Hp:=fun b=>if b=a then some o else H b
theorem aI{H:Hp}{a:Addr}{o:HO}:cn H a o a=some o:=by unfold cn;rw[if_pos rfl]
theorem aD{H:Hp}{a b:Addr}{o:HO}(h:b≠a):cn H a o b=H b:=by unfold cn;rw[if_neg h]
theorem bX{H:Hp}{a b:Addr}{o:HO}(h:H a=some o)(h':H b=none):a≠b:=by
 intro e;subst e;rw[h]at h';cases h'
def IsTupD(h:Heap)(a:Addr)(items:Array DM):Prop:=∃o,h.get? a=some o/\(o.cls=.type "tuple"/\o.dict=none)/\∃n,o.data=.seq items n
theorem IsTupD.tup{h:Heap}{a:Addr}{items:Array DM}(t:IsTupD h a items):IsTup h a items:=let ⟨o,e,c,n,d⟩:=t;⟨o,e,c.1,n,d⟩
theorem IsTupD.new(h:Heap)(items:Array DM):IsTupD (h.push {cls:=.type "tuple",data:=.seq items}) h.objs.size items:=⟨_,DS h rfl,⟨rfl,rfl⟩,0,rfl⟩
section
variable(P:E4)(w:E8)
def ObjOk(H:Hp)(h:Heap)(a:Addr):HO->Prop
 | .lst xs=>xs.length<=sizeLine/\∃(its:List DM)(n:Nat),Vals xs its/\h.get? a=some {cls:=.type "list",data:=.seq its.toArray n}
 | .tup xs=>xs.length<=sizeLine/\∃its:List DM,Vals xs its/\IsTupD h a its.toArray
 | .dK kvs=>kvs.length<=sizeLine/\(a==sysModules)=false/\∃vs,KV kvs vs/\h.DictOf (mixKind P w) a vs
 | .dT kvs=>kvs.length<=sizeLine/\(a == sysModules)=false/\∃xs:List (List Key×Addr×DM),
   Paired (fun(p:List Key×V)(q:List Key×Addr×DM)=>p.1=q.1/\H q.2.1=some (.tup<|p.1.map kV)/\RelV p.2 q.2.2) kvs xs/\
   ∃o es ep,h.get? a=some o/\o.ExactDict/\o.data=.dict es ep/\es.toList=xs.map (entryOfKey<|tupleKind<|mixKind P w)/\(xs.map (·.1)).Nodup
 | .set S n=>h.SetOf (intKind P w) a S n
 | .ins C dx fs=>H dx=some (.own a)/\fs.length<=1000/\dx≠a/\h.get? a=some (K3 C dx)/\
   ∃mA,h.Ns1 dx mA/\(∀f,RelO (fs.lookup f)<|mA f)/\MU mA (fs.map (·.1))
 | .own _=>∃o,h.get? a=some o
 | .xd fs=>∃mA,h.Ns1 a mA/\∀f,RelO (fs.lookup f)<|mA f
 | .rng lo hi=>∃t u v,h.get? a=some {cls:=.type "range",data:=.fields #[.int lo t,.int hi u,.int 1 v]}
 | .frz o u=>h.get? a=some o/\ObjOk H h a u
 | .tbl ps=>h.get? a=some {cls:=.none,data:=.fields ps}
 | .met f x=>h.get? a=some (Jm (.ref f)<|.ref x)
 | .ext φ=>φ h/\(∃o,h.get? a=some o)/\∀h1 h2:Heap,φ h1->(∀o,h1.get? a=some o->h2.get? a=some o)->φ h2
def HOk(H:Hp)(h:Heap):Prop:=∀a o,H a=some o->ObjOk P w H h a o
end
section
variable{P:E4}{w:E8}{H H':Hp}{h h':Heap}{a:Addr}{o:HO}
theorem ObjOk.lt(x:ObjOk P w H h a o):a<h.objs.size:=by
 cases o with
 |lst xs=>obtain⟨_,_,_,_,e⟩:=x;exact DW e
 |tup xs=>obtain⟨_,_,_,p⟩:=x;exact p.tup.lt
 |dK kvs=>obtain⟨_,_,_,_,o,_,_,e,_⟩:=x;exact DW e
 |dT kvs=>obtain⟨_,_,_,_,o,_,_,e,_⟩:=x;exact DW e
 |set S n=>obtain⟨o,_,_,_,e,_⟩:=x;exact DW e
 |ins C dx fs=>obtain⟨_,_,_,e,_⟩:=x;exact DW e
 |own y=>obtain⟨_,e⟩:=x;exact DW e
 |xd fs=>obtain⟨_,⟨_,_,_,e,_⟩,_⟩:=x;exact DW e
 |rng lo hi=>obtain⟨_,_,_,e⟩:=x;exact DW e
 |frz ob u=>obtain⟨e,_⟩:=x;exact DW e
 |tbl ps=>exact DW (show h.get? a=some _ from x)
 |met f y=>exact DW (show h.get? a=some _ from x)
 |ext φ=>obtain⟨_,⟨_,e⟩,_⟩:=x;exact DW e
theorem Paired.mapP{α β:Type}{F G:α->β->Prop}:∀{l₁:List α}{l₂:List β},Paired F l₁ l₂->(∀a b,F a b->G a b)->Paired G l₁ l₂
 |_,_,.nil,_=>.nil
 |_,_,.cons r t,f=>.cons (f _ _ r)<|Paired.mapP t f
theorem ObjOk.stay(x:ObjOk P w H h a o)(k:∀b u,(b=a\/H b=some (.own a))->h.get? b=some u->h'.get? b=some u)
  (ho:∀b,H b=some (.own a)->H' b=some (.own a)) (ht:∀b xs,H b=some (.tup xs)->H' b=some (.tup xs)):ObjOk P w H' h' a o:=by
 induction o with
 |lst xs=>obtain⟨z,its,n,r,e⟩:=x;exact⟨z,its,n,r,k _ _ (.inl rfl) e⟩
 |tup xs=>obtain⟨z,its,r,ob,e,c⟩:=x;exact⟨z,its,r,ob,k _ _ (.inl rfl) e,c⟩
 |dK kvs=>obtain⟨z,y,vs,r,ob,es,ep,e,c⟩:=x;exact⟨z,y,vs,r,ob,es,ep,k _ _ (.inl rfl) e,c⟩
 |dT kvs=>
  obtain⟨z,y,xs,r,ob,es,ep,e,c⟩:=x;exact⟨z,y,xs,Paired.mapP r fun p q z=>⟨z.1,ht _ _ z.2.1,z.2.2⟩,ob,es,ep,k _ _ (.inl rfl) e,c⟩
 |set S n=>obtain⟨ob,es,ep,t,e,c⟩:=x;exact⟨ob,es,ep,t,k _ _ (.inl rfl) e,c⟩
 |ins C dx fs=>
  obtain⟨d,z,ne,e,mA,⟨od,es,ep,e2,c⟩,r⟩:=x;exact⟨ho _ d,z,ne,k _ _ (.inl rfl) e,mA,⟨od,es,ep,k _ _ (.inr d) e2,c⟩,r⟩
 |own y=>obtain⟨ob,e⟩:=x;exact⟨ob,k _ _ (.inl rfl) e⟩
 |xd fs=>obtain⟨mA,⟨od,es,ep,e,c⟩,r⟩:=x;exact⟨mA,⟨od,es,ep,k _ _ (.inl rfl) e,c⟩,r⟩
 |rng lo hi=>obtain⟨t,u,v,e⟩:=x;exact⟨t,u,v,k _ _ (.inl rfl) e⟩
 |frz ob u ih=>obtain⟨e,q⟩:=x;exact⟨k _ _ (.inl rfl) e,ih q⟩
 |tbl ps=>
  have e:h.get? a=some {cls:=.none,data:=.fields ps}:=x;show h'.get? a=some {cls:=.none,data:=.fields ps};exact k a _ (.inl rfl) e
 |met f y=>
  have e:h.get? a=some (Jm (.ref f)<|.ref y):=x;show h'.get? a=some (Jm (.ref f)<|.ref y);exact k a _ (.inl rfl) e
 |ext φ=>obtain⟨p,⟨o,e⟩,st⟩:=x;exact⟨st _ _ p fun o q=>k _ _ (.inl rfl) q,⟨o,k _ _ (.inl rfl) e⟩,st⟩
theorem HOk.lt(x:HOk P w H h)(e:H a=some o):a<h.objs.size:=(x a o e).lt
theorem HOk.fresh(x:HOk P w H h)(e:h.objs.size<=a):H a=none:=by
 cases q:H a with
 |none=>rfl
 |some u=>exact absurd (DV (x.lt q) e)<|Fi _
theorem HOk.kept(x:HOk P w H h)(k:∀b u,h.get? b=some u->h'.get? b=some u):HOk P w H h':=fun a o e=>
 (x a o e).stay (fun b u _ q=>k b u q) (fun _ q=>q) fun _ _ q=>q
theorem HOk.laid(x:HOk P w H h)(k:∀b u,h.get? b=some u->h'.get? b=some u)(hp:h.objs.size<=a)(new:ObjOk P w (cn H a o) h' a o):HOk P w (cn H a o) h':=fun b u e=>by
 have hn:=x.fresh hp;by_cases hb:b=a;·subst hb;rw[aI]at e;cases e;exact new
 ·rw[aD hb]at e;exact(x b u e).stay (fun c v _ q=>k c v q) (fun c q=>by rw[aD<|bX q hn];exact q) fun c xs q=>by rw[aD<|bX q hn];exact q
end
def Rd(H:Hp)(a:Addr)(u:HO):Prop:=H a=some u\/∃o,H a=some (.frz o u)
theorem Rd.ok{P:E4}{w:E8}{H:Hp}{h:Heap}{a:Addr}{u:HO}(r:Rd H a u)(x:HOk P w H h):ObjOk P w H h a u:=by
 rcases r with r|⟨o,r⟩
 ·exact x a u r
 ·obtain⟨_,q⟩:=x a _ r;exact q
def Ai:Option HO->Prop
 |some (.lst _)=>True
 |some (.dK _)=>True
 |some (.dT _)=>True
 |some (.set _ _)=>True
 |some (.ins _ _ _)=>True
 |some (.ext _)=>True
 |_=>False
section
variable{P:E4}{w:E8}{H:Hp}{h h':Heap}{x e:Addr}{o':HO}
theorem HOk.write(ok:HOk P w H h)(mu:Ai (H x))(he:e=x\/H e=some (.own x))(k:∀b u,b≠e->h.get? b=some u->h'.get? b=some u)(heo:∃u,h'.get? e=some u)
  (new:ObjOk P w (cn H x o') h' x o'):HOk P w (cn H x o') h':=fun b u q=>by
 have nown:∀c y,H c=some (.own y)->c≠x:=fun c y r z=>by subst z;rw[r]at mu;exact mu
 have ntup:∀c xs,H c=some (.tup xs)->c≠x:=fun c xs r z=>by subst z;rw[r]at mu;exact mu
 by_cases hb:b=x;·subst hb;rw[aI]at q;cases q;exact new
 ·rw[aD hb]at q;by_cases hbe:b=e
  ·have q':H b=some (.own x):=by
    rcases he with z|z;·exact absurd (hbe.trans z) hb
    ·rw[hbe];exact z
   rw[q]at q';cases q';obtain⟨v,hv⟩:=heo;exact⟨v,by rw[hbe];exact hv⟩
  ·refine(ok b u q).stay (fun c v hc r=>k c v ?_ r) (fun c r=>by rw[aD<|nown c b r];exact r) fun c xs r=>by rw[aD<|ntup c xs r];exact r
   rcases hc with rfl|hc;·exact hbe
   ·rintro rfl;rcases he with z|z;·exact nown c b hc z
    ·rw[hc]at z;cases z;exact hb rfl
end
structure Un(fs ex:List Addr)(H H':Hp)(h h':Heap):Prop where
 keep:∀b o,h.get? b=some o->H b=none->b∉fs->b∉ex->h'.get? b=some o
 slot:∀b o,h.get? b=some o->H b=none->b∈fs->b∉ex->∃sl,h'.get? b=some {o with slots:=sl}
 free:∀b o,h.get? b=some o->H b=none->b∉ex->H' b=none
 there:∀b o,h.get? b=some o->b∉ex->∃o',h'.get? b=some o'
 tups:∀b xs,H b=some (.tup xs)->H' b=some (.tup xs)
 frzs:∀b o u,H b=some (.frz o u)->H' b=some (.frz o u)
 tbls:∀b ps,H b=some (.tbl ps)->∃more,H' b=some (.tbl<|ps++more)
section
variable{fs fs' ex ex':List Addr}{H H1 H2:Hp}{h h1 h2 h':Heap}{a x e:Addr}{o:HO}
theorem Un.any(u:Un fs ex H H1 h h1){b:Addr}{ob:Obj}(q:h.get? b=some ob)(n:H b=none)(hx:b∉ex):∃sl,h1.get? b=some {ob with slots:=sl}:=by
 by_cases hb:b∈fs;·exact u.slot b ob q n hb hx
 ·exact⟨ob.slots,u.keep b ob q n hb hx⟩
theorem Un.kept(k:∀b u,h.get? b=some u->h'.get? b=some u):Un fs ex H H h h':=
 ⟨fun b ob q _ _ _=>k b ob q,fun b ob q _ _ _=>⟨ob.slots,k b ob q⟩,fun _ _ _ n _=>n,fun b ob q _=>⟨ob,k b ob q⟩,fun _ _ q=>q,fun _ _ _ q=>q,fun _ ps q=>⟨#[],by rw[q];simp⟩⟩
theorem Un.refl:Un fs ex H H h h:=Un.kept fun _ _ q=>q
theorem Un.laid(k:∀b u,h.get? b=some u->h'.get? b=some u)(hp:h.objs.size<=a)(hn:H a=none):Un fs ex H (cn H a o) h h' where
 keep:=fun b u q _ _ _=>k b u q
 slot:=fun b u q _ _ _=>⟨u.slots,k b u q⟩
 free:=fun b u q n _=>by rw[aD<|Ed<|DV (DW q) hp];exact n
 there:=fun b u q _=>⟨u,k b u q⟩
 tups:=fun b xs q=>by rw[aD<|bX q hn];exact q
 frzs:=fun b u xs q=>by rw[aD<|bX q hn];exact q
 tbls:=fun b ps q=>⟨#[],by rw[aD<|bX q hn,q];simp⟩
theorem Un.write(mu:Ai (H x))(he:e=x\/H e=some (.own x))(k:∀b u,b≠e->h.get? b=some u->h'.get? b=some u)(heo:∃u,h'.get? e=some u):Un fs ex H (cn H x o) h h':=by
 have hx:∀b,H b=none->b≠x:=fun b n z=>by subst z;rw[n]at mu;exact mu
 have hb:∀b,H b=none->b≠e:=fun b n z=>by
  subst z;rcases he with r|r
  ·exact hx b n r
  ·rw[n]at r;cases r
 have hm:∀b u,H b=some u->¬Ai (some u)->b≠x:=fun b u q nm z=>by subst z;rw[q]at mu;exact nm mu
 refine⟨fun b u q n _ _=>k b u (hb b n) q,fun b u q n _ _=>⟨u.slots,k b u (hb b n) q⟩,fun b u q n _=>by rw[aD<|hx b n];exact n,fun b u q _=>?_,
  fun b xs q=>by rw[aD (hm b _ q fun z=>z)];exact q,fun b u xs q=>by rw[aD (hm b _ q fun z=>z)];exact q,fun b ps q=>⟨#[],by rw[aD (hm b _ q fun z=>z),q];simp⟩⟩
 by_cases hbe:b=e;·subst hbe;exact heo
 ·exact⟨u,k b u hbe q⟩
end
def gp(h:Heap)(H:Hp):List Addr:=(F2 h.objs.size).filter fun a=>(H a).isSome
def lD(h:Heap)(H:Hp):Heap:=PySem.W.hideAll h<|gp h H
theorem qX(h:Heap)(H:Hp):(lD h H).objs.size=h.objs.size:=PySem.W.hideAll_size _ _
theorem t9{h:Heap}{H:Hp}{b:Addr}{o:Obj}(e:h.get? b=some o)(n:H b=none):(lD h H).get? b=some o:=
 PySem.W.hideAll_get _ e fun hm=>by
  have q:(H b).isSome=true:=(K4.mp hm).2;rw[n]at q;simp at q
theorem wq{h:Heap}{H:Hp}{b:Addr}{o:Obj}(e:(lD h H).get? b=some o):h.get? b=some o/\H b=none:=by
 have e':h.get? b=some o:=PySem.W.of_hideAll (gp h H) e;refine⟨e',?_⟩;cases q:H b with
 |none=>rfl
 |some x=>
  have hm:b∈gp h H:=K4.mpr ⟨Ht.mpr<|DW e',by simp[q]⟩;have z:(lD h H).get? b=none:=PySem.W.hideAll_none (gp h H) hm;rw[z]at e;cases e
structure Mod(K:DJ)(mg:Str->Option DM)(base:Heap):Prop where
 kin:K.In base
 glob:base.Ns mainGlobals mg
 blt:∃mb,base.Ns builtinsNs mb/\∀x:Str,x≠"__name__"->mb x=bootBuiltins x
 nolimit:base.NoLimit
structure Cx where
 prog:E4
 w:E8
 K:DJ
 mg:Str->Option DM
 base:Heap
 A:EB
 N:List Str
 s₀:DN
 H₀:Hp
 env:Env
 outer:List Env
 stack:List Env
 ex:List Addr
 fn:Str->Bool
 calm:Bool
 pn:List (Addr×Obj)
 xe:DM->DN->Prop
def frs(l:List Env):List Addr:=l.filterMap (·.frame)
abbrev Cx.fs(X:Cx):List Addr:=frs X.outer
def Vis(sc:Hi)(x:Str):Prop:=sc.names.lookup x=some .local\/sc.names.lookup x=some .cell\/sc.names.lookup x=some .free
def ym(sc:Hi)(x:Str):Prop:=sc.names.lookup x=some .local\/sc.names.lookup x=some .cell
def Look(env:Env)(h:Heap)(m:Str->Option DM)(x:Str)(u:DM):Prop:=
 (env.kindOf x=some .local/\m x=some u)\/((env.kindOf x=some .cell\/env.kindOf x=some .free)/\∃c,env.cells.lookup x=some c/\h.IsCell c (some u))
structure Cx.Ok(X:Cx):Prop where
 mod:Mod X.K X.mg X.base
 kind:X.env.scope.kind=.function
 glob:X.env.globals=mainGlobals
 blt:X.env.builtins=builtinsNs
 above:X.s₀.heap.objs.size<=X.env.locals
 inj:∀x y c,X.env.cells.lookup x=some c->X.env.cells.lookup y=some c->x=y
 has:∀x,(X.env.kindOf x=some .cell\/X.env.kindOf x=some .free)->∃c,X.env.cells.lookup x=some c
 cab:∀x c,X.fn x=true->X.env.cells.lookup x=some c->X.s₀.heap.objs.size<=c
 hd:X.calm=true->X.A.handled=none
 frames:X.A.frames=some X.stack
 stk:X.stack=X.outer\/(X.stack=X.env::X.outer/\X.env.frame=some X.env.locals)
 exf:∀b∈X.ex,b≠X.env.locals/\∀x c,X.env.cells.lookup x=some c->c≠b
 bs:∀b o,X.base.get? b=some o->X.s₀.heap.get? b=some o/\X.H₀ b=none
 bsz:X.base.objs.size<=X.s₀.heap.objs.size
 noex:∀b o,X.base.get? b=some o->b∉X.ex
 exfs:∀b∈X.ex,b∉X.fs
 funs:X.s₀.heap.FunFrames X.base X.outer
 frf:∀b∈X.fs,X.H₀ b=none
structure Inv(X:Cx)(pins:List (Addr×Obj))(σ:List (Option V))(H:Hp)(s:DN):Prop where
 ok:X.Ok
 os:s.os=X.s₀.os
 bare:Jn s.gens
 base:Un X.fs X.ex X.H₀ H X.s₀.heap s.heap
 loc:∃m,s.heap.Ns X.env.locals m/\∀(i:Nat)(x:Str)(v:V),X.N[i]? =some x->σ[i]? =some (some v)->Vis X.env.scope x->∃u,RelV v u/\Look X.env s.heap m x u
 cell:∀x c,X.env.cells.lookup x=some c->∃v,s.heap.IsCell c v
 free:H X.env.locals=none
 freeC:∀x c,X.env.cells.lookup x=some c->H c=none
 pin:∀p∈X.pn++pins,s.heap.get? p.1=some p.2/\H p.1=none/\p.1≠X.env.locals/\p.1∉X.fs/\∀v,p.2.data≠.cell v
 hok:HOk X.prog X.w H s.heap
 len:σ.length=X.N.length
section
variable{X:Cx}{pins:List (Addr×Obj)}{σ:List (Option V)}{H H':Hp}{s:DN}{h':Heap}
theorem Cx.Ok.nofr(ok:X.Ok){b:Addr}{o:Obj}(e:X.base.get? b=some o):b∉X.fs:=fun hb=>by
 have:=(ok.funs.mem hb).1;rw[e]at this;cases this
theorem Inv.bs(I:Inv X pins σ H s):∀b o,X.base.get? b=some o->s.heap.get? b=some o/\H b=none:=fun b o e=>
 ⟨I.base.keep b o (I.ok.bs b o e).1 (I.ok.bs b o e).2 (I.ok.nofr e) (I.ok.noex b o e),I.base.free b o (I.ok.bs b o e).1 (I.ok.bs b o e).2 (I.ok.noex b o e)⟩
theorem Inv.bk(I:Inv X pins σ H s):∀b o,X.base.get? b=some o->s.heap.get? b=some o:=fun b o e=>(I.bs b o e).1
theorem Inv.mod(I:Inv X pins σ H s):Mod X.K X.mg X.base:=I.ok.mod
theorem Inv.kIn(I:Inv X pins σ H s):X.K.In s.heap:=I.ok.mod.kin.keeps I.bk
theorem Inv.lt(I:Inv X pins σ H s):X.env.locals<s.heap.objs.size:=let ⟨_,hn,_⟩:=I.loc;hn.lt
theorem Inv.sz(I:Inv X pins σ H s):X.s₀.heap.objs.size<=s.heap.objs.size:=FO I.ok.above<|HE I.lt
theorem Inv.nofs(I:Inv X pins σ H s){a:Addr}(h:s.heap.objs.size<=a):a∉X.fs:=fun hb=>by
 obtain⟨_,o,ho,_⟩:=I.ok.funs.mem hb;exact absurd (DV (DW ho)<|FO I.sz h)<|Fi _
theorem Inv.cne(I:Inv X pins σ H s):∀x c,X.env.cells.lookup x=some c->c≠X.env.locals:=fun x c e z=>by
 obtain⟨v,o,ho,hd⟩:=I.cell x c e;obtain⟨m,⟨o',es,ep,ho',hd',_⟩,_⟩:=I.loc;rw[z,ho']at ho;cases ho;rw[hd']at hd;cases hd
theorem Inv.funs(I:Inv X pins σ H s):s.heap.FunFrames X.base X.outer:=by
 have all:∀(l:List Env),(∀b∈frs l,b∈X.fs)->X.s₀.heap.FunFrames X.base l->s.heap.FunFrames X.base l:=by
  intro l
  induction l with
  |nil=>intro _ _;trivial
  |cons env r ih=>
   intro hs hl;obtain⟨hk,⟨L,o,hf,hn,ho,hd⟩,hr⟩:=hl;have hL:L∈X.fs:=hs L (by unfold frs;rw[GK,hf];exact E5);obtain⟨sl,e⟩:=I.base.slot L o ho (I.ok.frf L hL) hL fun z=>I.ok.exfs L z hL;exact⟨hk,⟨L,_,hf,hn,e,hd⟩,ih (fun b hb=>hs b (by unfold frs;rw[GK,hf];exact E9 _ hb)) hr⟩
 exact all X.outer (fun _ hb=>hb) I.ok.funs
theorem Inv.stack(I:Inv X pins σ H s):s.heap.FunFrames X.base X.stack:=by
 rcases I.ok.stk with e|⟨e,hf⟩
 ·rw[e];exact I.funs
 ·rw[e];obtain⟨m,hn,_⟩:=I.loc;refine .cons (by rw[I.ok.kind];decide) hf hn ?_ I.funs;exact Heap.get?_none_of_le<|FO I.ok.bsz I.ok.above
theorem Inv.stkSub(I:Inv X pins σ H s):∀b∈frs X.stack,b∈X.env.locals::X.fs:=fun b hb=>by
 rcases I.ok.stk with e|⟨e,hf⟩
 ·rw[e]at hb;exact E9 _ hb
 ·rw[e]at hb;unfold frs at hb;rw[GK,hf]at hb;exact hb
theorem Inv.stkFree(I:Inv X pins σ H s):∀b∈frs X.stack,H b=none:=fun b hb=>by
 rcases E1.mp (I.stkSub b hb)with e|hb;·rw[e];exact I.free
 ·obtain⟨_,o,ho,_⟩:=I.ok.funs.mem hb;exact I.base.free b o ho (I.ok.frf b hb) fun z=>I.ok.exfs b z hb
theorem Inv.step{g':Array GenState}{t':Nat}{d':Drawn}{ch:List Addr}(I:Inv X pins σ H s)
  (hch:∀b∈ch,(b∈X.ex\/X.s₀.heap.objs.size<=b)/\b≠X.env.locals/\(∀x c,X.env.cells.lookup x=some c->c≠b)/\∀p∈X.pn++pins,p.1≠b)
  (keep:∀b o,b≠X.env.locals->b∉X.fs->b∉ch->s.heap.get? b=some o->H b=none->h'.get? b=some o)
  (slot:∀b o,b≠X.env.locals->b∈X.fs->b∉ch->s.heap.get? b=some o->H b=none->∃sl,h'.get? b=some {o with slots:=sl}) (free:∀b o,b∉ch->s.heap.get? b=some o->H b=none->H' b=none)
  (there:∀b o,b∉ch->s.heap.get? b=some o->∃o',h'.get? b=some o')
  (tups:∀b xs,H b=some (.tup xs)->H' b=some (.tup xs)) (frzs:∀b o u,H b=some (.frz o u)->H' b=some (.frz o u)) (tbls:∀b ps,H b=some (.tbl ps)->∃more,H' b=some (.tbl<|ps++more))
  (ns:∀m,s.heap.Ns X.env.locals m->h'.Ns X.env.locals m) (hok:HOk X.prog X.w H' h') (hg:Jn g'):
  Inv X pins σ H' {s with heap:=h',gens:=g',drawn:=d',toks:=t'}:=by
 have neL:∀b o,X.s₀.heap.get? b=some o->b≠X.env.locals:=fun b o e=>Ed<|DV (DW e) I.ok.above;have neC:∀b o,X.s₀.heap.get? b=some o->b∉X.ex->b∉ch:=fun b o e hx hb=>by
  rcases (hch b hb).1 with z|z;·exact hx z
  ·exact absurd (DV (DW e) z)<|Fi _
 have cellK:∀x c,X.env.cells.lookup x=some c->∀v,s.heap.IsCell c v->h'.IsCell c v:=fun x c e v⟨o,ho,hd⟩=>by
  have nch:c∉ch:=fun z=>(hch c z).2.2.1 x c e rfl;by_cases hc:c∈X.fs
  ·obtain⟨sl,q⟩:=slot c o (I.cne x c e) hc nch ho<|I.freeC x c e;exact⟨_,q,hd⟩
  ·exact⟨o,keep c o (I.cne x c e) hc nch ho<|I.freeC x c e,hd⟩
 refine⟨I.ok,I.os,hg,⟨fun b o e n hb hx=>?_,fun b o e n hb hx=>?_,fun b o e n hx=>?_,fun b o e hx=>?_,fun b xs e=>tups b xs<|I.base.tups b xs e,fun b o xs e=>frzs b o xs<|I.base.frzs b o xs e,fun b ps e=>?_⟩,?_,fun x c e=>?_,?_,fun x c e=>?_,fun p hp=>?_,hok,I.len⟩;·exact keep b o (neL b o e) hb (neC b o e hx) (I.base.keep b o e n hb hx)<|I.base.free b o e n hx
 ·obtain⟨sl,e1⟩:=I.base.slot b o e n hb hx;obtain⟨sl',e2⟩:=slot b _ (neL b o e) hb (neC b o e hx) e1<|I.base.free b o e n hx;exact⟨sl',e2⟩
 ·obtain⟨o',e1⟩:=I.base.there b o e hx;exact free b o' (neC b o e hx) e1<|I.base.free b o e n hx
 ·obtain⟨o',e1⟩:=I.base.there b o e hx;exact there b o' (neC b o e hx) e1
 ·obtain⟨m1,e1⟩:=I.base.tbls b ps e;obtain⟨m2,e2⟩:=tbls b _ e1;exact⟨m1++m2,by rw[e2,Array.append_assoc]⟩
 ·obtain⟨m,hn,hl⟩:=I.loc;refine⟨m,ns m hn,fun i x v e1 e2 e3=>?_⟩;obtain⟨u,r,l⟩:=hl i x v e1 e2 e3;refine⟨u,r,?_⟩;rcases l with l|⟨k,c,e,z⟩
  ·exact .inl l
  ·exact .inr ⟨k,c,e,cellK x c e _ z⟩
 ·obtain⟨v,z⟩:=I.cell x c e;exact⟨v,cellK x c e v z⟩
 ·obtain⟨m,⟨o,_,_,ho,_⟩,_⟩:=I.loc;exact free _ o (fun z=>(hch _ z).2.1 rfl) ho I.free
 ·obtain⟨v,o,ho,hd⟩:=I.cell x c e;exact free c o (fun z=>(hch c z).2.2.1 x c e rfl) ho<|I.freeC x c e
 ·obtain⟨e,n,ne,nf,d⟩:=I.pin p hp;have nch:p.1∉ch:=fun z=>(hch p.1 z).2.2.2 p hp rfl;exact⟨keep p.1 p.2 ne nf nch e n,free p.1 p.2 nch e n,ne,nf,d⟩
theorem Inv.un{t':Nat}(I:Inv X pins σ H s)(u:Un X.fs [] H H' s.heap h')(hok:HOk X.prog X.w H' h'):Inv X pins σ H' {s with heap:=h',toks:=t'}:=by
 obtain⟨m,⟨o,es,ep,ho,r⟩,_⟩:=id I.loc;obtain⟨sl,hL⟩:=u.any ho I.free (by simp);exact I.step (g':=s.gens) (d':=s.drawn) (ch:=[]) (fun _ z=>nomatch z) (fun b o _ hb _ e n=>u.keep b o e n hb (by simp)) (fun b o _ hb _ e n=>u.slot b o e n hb (by simp)) (fun b o _ e n=>u.free b o e n (by simp)) (fun b o _ e=>u.there b o e (by simp)) u.tups u.frzs u.tbls (fun m' hm=>by
  obtain⟨o',es',ep',ho',r'⟩:=hm;rw[ho]at ho';cases ho';exact⟨_,es',ep',hL,r'⟩) hok I.bare
theorem Inv.call{g':Array GenState}{t':Nat}{d':Drawn}{ch:List Addr}(I:Inv X pins σ H s)(u:Un (frs X.stack) ch H H' s.heap h')(hok:HOk X.prog X.w H' h')(hg:Jn g')
  (hch:∀b∈ch,(b∈X.ex\/X.s₀.heap.objs.size<=b)/\b≠X.env.locals/\(∀x c,X.env.cells.lookup x=some c->c≠b)/\∀p∈X.pn++pins,p.1≠b):
  Inv X pins σ H' {s with heap:=h',gens:=g',drawn:=d',toks:=t'}:=by
 obtain⟨m,⟨o,es,ep,ho,r⟩,_⟩:=id I.loc;obtain⟨sl,hL⟩:=u.any ho I.free fun z=>(hch _ z).2.1 rfl;exact I.step (ch:=ch) hch (fun b o hL hb hc e n=>u.keep b o e n (fun z=>(E1.mp<|I.stkSub b z).elim hL hb) hc) (fun b o _ _ hc e n=>u.any e n hc) (fun b o hc e n=>u.free b o e n hc) (fun b o hc e=>u.there b o e hc) u.tups u.frzs u.tbls (fun m' hm=>by
  obtain⟨o',es',ep',ho',r'⟩:=hm;rw[ho]at ho';cases ho';exact⟨_,es',ep',hL,r'⟩) hok hg
theorem Inv.turned{t':Nat}{it:Addr}(I:Inv X pins σ H s)(k:∀b o,b≠it->s.heap.get? b=some o->h'.get? b=some o)(hn:H it=none)(hL:it≠X.env.locals)
  (h1:it∈X.ex\/X.s₀.heap.objs.size<=it) (h2:∀x c,X.env.cells.lookup x=some c->c≠it) (h3:∀p∈X.pn++pins,p.1≠it):Inv X pins σ H {s with heap:=h',toks:=t'}:=by
 have nit:∀b u,H b=some u->b≠it:=fun b u e z=>by rw[z,hn]at e;cases e
 refine I.step (g':=s.gens) (d':=s.drawn) (ch:=[it]) (fun b hb=>?_) (fun b o _ _ hc e _=>k b o (fun z=>hc (by simp[z])) e) (fun b o _ _ hc e _=>⟨o.slots,k b o (fun z=>hc (by simp[z])) e⟩) (fun _ _ _ _ n=>n)
  (fun b o hc e=>⟨o,k b o (fun z=>hc (by simp[z])) e⟩) (fun _ _ e=>e) (fun _ _ _ e=>e) (fun b ps e=>⟨#[],by rw[e];simp⟩) (fun m hm=>?_) (fun b u e=>?_) I.bare
 ·have e:b=it:=by simpa using hb
  subst e;exact⟨h1,hL,h2,h3⟩
 ·obtain⟨o,es,ep,ho,r⟩:=hm;exact⟨o,es,ep,k _ o (HN hL) ho,r⟩
 ·refine(I.hok b u e).stay (fun c v hc q=>k c v ?_ q) (fun _ q=>q) fun _ _ q=>q;rcases hc with z|z
  ·rw[z];exact nit b u e
  ·exact nit c _ z
theorem Inv.tok(I:Inv X pins σ H s)(t:Nat):Inv X pins σ H {s with toks:=t}:=I.un (h':=s.heap) (t':=t) Un.refl I.hok
theorem Inv.kept{t':Nat}(I:Inv X pins σ H s)(k:∀b u,s.heap.get? b=some u->h'.get? b=some u):Inv X pins σ H {s with heap:=h',toks:=t'}:=I.un (Un.kept k)<|I.hok.kept k
theorem Inv.laid{a:Addr}{o:HO}{t':Nat}(I:Inv X pins σ H s)(k:∀b u,s.heap.get? b=some u->h'.get? b=some u)(hp:s.heap.objs.size<=a)(new:ObjOk X.prog X.w (cn H a o) h' a o):
  Inv X pins σ (cn H a o) {s with heap:=h',toks:=t'}:=I.un (Un.laid k hp<|I.hok.fresh hp)<|I.hok.laid k hp new
theorem Inv.write{x e:Addr}{o:HO}{t':Nat}(I:Inv X pins σ H s)(mu:Ai (H x))(he:e=x\/H e=some (.own x))(k:∀b u,b≠e->s.heap.get? b=some u->h'.get? b=some u)(heo:∃u,h'.get? e=some u)
  (new:ObjOk X.prog X.w (cn H x o) h' x o):Inv X pins σ (cn H x o) {s with heap:=h',toks:=t'}:=I.un (Un.write mu he k heo)<|I.hok.write mu he k heo new
theorem Inv.weak{σ':List (Option V)}(I:Inv X pins σ H s)(hl:σ'.length=σ.length)(w:∀(i:Nat)v,σ'[i]? =some (some v)->σ[i]? =some (some v)):Inv X pins σ' H s:=
 ⟨I.ok,I.os,I.bare,I.base,let ⟨m,hn,hl'⟩:=I.loc;⟨m,hn,fun i x v e1 e2 e3=>hl' i x v e1 (w i v e2) e3⟩,I.cell,I.free,I.freeC,I.pin,I.hok,hl.trans I.len⟩
theorem Inv.pins_of{pins':List (Addr×Obj)}(I:Inv X pins σ H s)(h:∀p∈pins',s.heap.get? p.1=some p.2/\H p.1=none/\p.1≠X.env.locals/\p.1∉X.fs/\∀v,p.2.data≠.cell v):Inv X pins' σ H s:=
 ⟨I.ok,I.os,I.bare,I.base,I.loc,I.cell,I.free,I.freeC,fun p hp=>(EI.mp hp).elim (fun z=>I.pin p<|Iu _ z) (h p),I.hok,I.len⟩
theorem mN{N:List Str}(hN:N.Nodup){i j:Nat}{x:Str}(a:N[i]? =some x)(b:N[j]? =some x):i=j:=by
 obtain⟨h1,e1⟩:=DR.mp a;obtain⟨h2,e2⟩:=DR.mp b;exact(List.getElem_inj hN).mp (e1.trans e2.symm)
theorem kQ{M:K5}{A:EB}{E:DM->DN->Prop}{i:Nat}{x:Str}{v:V}{u:DM}{Q:Unit->DN->Prop}(I:Inv X pins σ H s)(hN:X.N.Nodup)(hi:X.N[i]? =some x)(hx:ym X.env.scope x)(r:RelV v u)
  (h:∀s',Inv X pins (σ.set i<|some v) H s'->(∃a,E6 a s.heap s'.heap/\(a=X.env.locals\/X.env.cells.lookup x=some a))->Q () s') (hf:X.fn x=true\/X.env.scope.names.lookup x=some .local:=by first|exact .inl rfl|exact .inr rfl|assumption):wpAny M A (storeName X.env x u) Q E s:=by
 obtain⟨m,hn,hl⟩:=id I.loc;have hcls:(X.env.scope.kind== .class||(X.env.scope.kind== .module&&X.env.locals != X.env.globals))=false:=by rw[I.ok.kind];rfl
 have hiσ:i<σ.length:=by rw[I.len];exact(DR.mp hi).1
 have cne:=I.cne;have tracked:∀{a:Addr}{h':Heap},(∃o,s.heap.get? a=some o/\H a=none)->E6 a s.heap h'->HOk X.prog X.w H h':=fun{a h'}ha hs b ob e=>by
  obtain⟨_,_,hfree⟩:=ha;refine(I.hok b ob e).stay (fun c w' hc q=>(hs.2 c ?_).trans q) (fun _ q=>q) fun _ _ q=>q;rintro rfl;rcases hc with rfl|hc
  ·rw[hfree]at e;cases e
  ·rw[hfree]at hc;cases hc
 rcases hx with hk|hk
 ·refine wpAny_storeName_local hk hn (fun h' hn' hs=>?_) hcls;obtain⟨oL,_,_,hoL,_⟩:=id hn;refine h _ ⟨I.ok,I.os,I.bare,⟨fun b o e n hb hx=>?_,fun b o e n hb hx=>?_,I.base.free,fun b o e hx=>?_,I.base.tups,I.base.frzs,I.base.tbls⟩,⟨_,hn',fun j y v' e1 e2 e3=>?_⟩,fun y c e=>?_,I.free,I.freeC,fun p hp=>?_,tracked ⟨oL,hoL,I.free⟩ hs,by simpa using I.len⟩ ⟨_,hs,.inl rfl⟩;·exact(hs.2 b<|Ed<|DV (DW e) I.ok.above).trans (I.base.keep b o e n hb hx)
  ·obtain⟨sl,e1⟩:=I.base.slot b o e n hb hx;exact⟨sl,(hs.2 b<|Ed<|DV (DW e) I.ok.above).trans e1⟩
  ·obtain⟨o',e1⟩:=I.base.there b o e hx;exact⟨o',(hs.2 b<|Ed<|DV (DW e) I.ok.above).trans e1⟩
  ·by_cases hj:j=i
   ·subst hj;rw[hi]at e1;cases e1;rw[JT hiσ]at e2;cases e2;exact⟨u,r,.inl ⟨hk,by simp⟩⟩
   ·rw[Ko<|HN hj]at e2;obtain⟨u',r',q⟩:=hl j y v' e1 e2 e3;refine⟨u',r',?_⟩;rcases q with⟨k,e⟩|⟨k,c,e,z⟩
    ·refine .inl ⟨k,?_⟩;have:y≠x:=fun e=>hj<|mN hN e1<|e▸hi;simp[this,e]
    ·exact .inr ⟨k,c,e,z.sameBut hs<|cne y c e⟩
  ·obtain⟨w',z⟩:=I.cell y c e;exact⟨w',z.sameBut hs<|cne y c e⟩
  ·obtain⟨e,n,ne,nf,d⟩:=I.pin p hp;exact⟨(hs.2 p.1 ne).trans e,n,ne,nf,d⟩
 ·have hfn:X.fn x=true:=by
   rcases hf with z|z;·exact z
   ·rw[z]at hk;cases hk
  obtain⟨c,hc⟩:=I.ok.has x<|.inl hk;obtain⟨w',z⟩:=I.cell x c hc;refine wpAny_storeName_cell I.ok.kind hk hc z<|fun h' hc' hs=>?_;obtain⟨oc,hoc,hocd⟩:=id z;refine h {s with heap:=h'} ⟨I.ok,I.os,I.bare,⟨fun b o e n hb hx=>?_,fun b o e n hb hx=>?_,I.base.free,fun b o e hx=>?_,I.base.tups,I.base.frzs,I.base.tbls⟩,⟨m,hn.sameBut hs<|HN<|cne x c hc,fun j y v' e1 e2 e3=>?_⟩,fun y c' e=>?_,I.free,I.freeC,fun p hp=>?_,tracked ⟨oc,hoc,I.freeC x c hc⟩ hs,by simpa using I.len⟩ ⟨c,hs,.inr hc⟩;·exact(hs.2 b<|Ed<|DV (DW e)<|I.ok.cab x c hfn hc).trans (I.base.keep b o e n hb hx)
  ·obtain⟨sl,e1⟩:=I.base.slot b o e n hb hx;exact⟨sl,(hs.2 b<|Ed<|DV (DW e)<|I.ok.cab x c hfn hc).trans e1⟩
  ·obtain⟨o',e1⟩:=I.base.there b o e hx;exact⟨o',(hs.2 b<|Ed<|DV (DW e)<|I.ok.cab x c hfn hc).trans e1⟩
  ·by_cases hj:j=i
   ·subst hj;rw[hi]at e1;cases e1;rw[JT hiσ]at e2;cases e2;exact⟨u,r,.inr ⟨.inl hk,c,hc,hc'⟩⟩
   ·rw[Ko<|HN hj]at e2;obtain⟨u',r',q⟩:=hl j y v' e1 e2 e3;refine⟨u',r',?_⟩;rcases q with q|⟨k,c',e,z'⟩
    ·exact .inl q
    ·refine .inr ⟨k,c',e,z'.sameBut hs ?_⟩;rintro rfl;exact hj<|mN hN e1<|I.ok.inj _ _ _ e hc▸hi
  ·by_cases hcc:c'=c;·subst hcc;exact⟨_,hc'⟩
   ·obtain⟨w2,z2⟩:=I.cell y c' e;exact⟨w2,z2.sameBut hs hcc⟩
  ·obtain⟨e,n,ne,nf,d⟩:=I.pin p hp;refine⟨(hs.2 p.1 ?_).trans e,n,ne,nf,d⟩;intro q;rw[q,hoc]at e;have q':oc=p.2:=Es e;exact d w' (by rw[<-q'];exact hocd)
theorem jt{M:K5}{A:EB}{E:DM->DN->Prop}{i:Nat}{x:Str}{v:V}{u:DM}{Q:Unit->DN->Prop}(I:Inv X pins σ H s)(hN:X.N.Nodup)(hi:X.N[i]? =some x)(hx:ym X.env.scope x)(r:RelV v u)
  (h:∀s',Inv X pins (σ.set i<|some v) H s'->Q () s') (hf:X.fn x=true\/X.env.scope.names.lookup x=some .local:=by first|exact .inl rfl|exact .inr rfl|assumption):wpAny M A (storeName X.env x u) Q E s:=
 kQ I hN hi hx r (fun s' I' _=>h s' I') hf
theorem Inv.call'{s':DN}{ch:List Addr}(I:Inv X pins σ H s)(ho:s'.os=s.os)(u:Un (frs X.stack) ch H H' s.heap s'.heap)(hok:HOk X.prog X.w H' s'.heap)(hg:Jn s'.gens)
  (hch:∀b∈ch,(b∈X.ex\/X.s₀.heap.objs.size<=b)/\b≠X.env.locals/\(∀x c,X.env.cells.lookup x=some c->c≠b)/\∀p∈X.pn++pins,p.1≠b):Inv X pins σ H' s':=by
 obtain⟨h',g',d',t',o'⟩:=s';have e:o'=s.os:=ho;subst e;exact I.call (g':=g') (t':=t') (d':=d') u hok hg hch
end
abbrev XK:=DM->Option Addr->Hp->Prop
abbrev St:=List<|Option V
abbrev VK:=V->Hp->Prop
abbrev TE:=St->Hp->VK->Prop
abbrev TT:=St->Hp->(Bool->Hp->Prop)->Prop
abbrev TA:=St->Hp->(List V->Hp->Prop)->Prop
structure Ends where
 nx:St->Hp->Prop
 rt:VK
 bk:St->Hp->Prop:=fun _ _=>False
 ct:St->Hp->Prop:=fun _ _=>False
abbrev TS:=Ends->St->Hp->Prop
def EP(X:Cx)(pins:List (Addr×Obj))(σ:St)(Q:VK)(u:DM)(s':DN):Prop:=∃v H',Inv X pins σ H' s'/\RelV v u/\Q v H'
def TP(X:Cx)(pins:List (Addr×Obj))(σ:St)(Q:Bool->Hp->Prop)(b:Bool)(s':DN):Prop:=∃H',Inv X pins σ H' s'/\Q b H'
def AP(X:Cx)(pins:List (Addr×Obj))(σ:St)(Q:List V->Hp->Prop)(us:List DM)(s':DN):Prop:=∃vs H',Inv X pins σ H' s'/\Vals vs us/\Q vs H'
def SP(X:Cx)(pins:List (Addr×Obj))(D:Ends)(f:Flow)(s':DN):Prop:=
 match f with
 | .next=>∃σ' H',Inv X pins σ' H' s'/\D.nx σ' H'
 | .brk=>∃σ' H',Inv X pins σ' H' s'/\D.bk σ' H'
 | .cont=>∃σ' H',Inv X pins σ' H' s'/\D.ct σ' H'
 | .ret u=>∃v σ' H',Inv X pins σ' H' s'/\RelV v u/\D.rt v H'
def PE(X:Cx)(e:Expr)(t:TE):Prop:=
 ∀(pins:List (Addr×Obj))(s:DN)(σ:St)(H:Hp)(Q:VK),Inv X pins σ H s->t σ H Q->wpAny (model X.prog X.w) X.A (eval e X.env) (EP X pins σ Q) X.xe s
def PT(X:Cx)(e:Expr)(t:TT):Prop:=
 ∀(pins:List (Addr×Obj))(s:DN)(σ:St)(H:Hp)(Q:Bool->Hp->Prop),Inv X pins σ H s->t σ H Q->wpAny (model X.prog X.w) X.A (isTrue e X.env<|eval e X.env) (TP X pins σ Q) X.xe s
def PW(X:Cx)(e:Expr)(t:TT):Prop:=
 ∀(whole:Sem DM)(pins:List (Addr×Obj))(s:DN)(σ:St)(H:Hp)(Q:Bool->Hp->Prop),Inv X pins σ H s->t σ H Q->wpAny (model X.prog X.w) X.A (isTrue e X.env whole) (TP X pins σ Q) X.xe s
theorem PW.pt{X:Cx}{e:Expr}{t:TT}(h:PW X e t):PT X e t:=h _
def PA(X:Cx)(es:List Expr)(t:TA):Prop:=
 ∀(pos:Pos)(pins:List (Addr×Obj))(s:DN)(σ:St)(H:Hp)(Q:List V->Hp->Prop),Inv X pins σ H s->t σ H Q->wpAny (model X.prog X.w) X.A (spliced<|backTo pos<|starEach es X.env) (AP X pins σ Q) X.xe s
def PS(X:Cx)(st:Stmt)(t:TS):Prop:=
 ∀(pins:List (Addr×Obj))(s:DN)(σ:St)(H:Hp)(D:Ends),Inv X pins σ H s->t D σ H->wpAny (model X.prog X.w) X.A (exec st X.env) (SP X pins D) X.xe s
def PSs(X:Cx)(st:List Stmt)(t:TS):Prop:=
 ∀(pins:List (Addr×Obj))(s:DN)(σ:St)(H:Hp)(D:Ends),Inv X pins σ H s->t D σ H->wpAny (model X.prog X.w) X.A (execs st X.env) (SP X pins D) X.xe s
theorem bG{α:Type}{t:Sem α}{Q Q':α->DN->Prop}{M:K5}{A:EB}{E:DM->DN->Prop}{s:DN}(h:wpAny M A t Q E s)(hQ:∀a s,Q a s->Q' a s):wpAny M A t Q' E s:=F5 h hQ fun _ _ x=>x
section
variable{X:Cx}
def gW(i:Nat):TE:=fun σ H Q=>∃v,σ[i]? =some (some v)/\Q v H
def tC(v:V):TE:=fun _ H Q=>Q v H
theorem yN{i:Nat}{x:Str}{pos:Pos}(hN:X.N[i]? =some x)(hv:Vis X.env.scope x)(hd:(x==("__debug__" :Str))=false:=by decide)(hcd:(x==("__classdict__" :Str))=false:=by decide):PE X (.Name x pos) (gW i):=by
 intro pins s σ H Q I h;obtain⟨v,e,h⟩:=h;obtain⟨m,hn,hl⟩:=I.loc;obtain⟨u,r,l⟩:=hl i x v hN e hv;have fin:EP X pins σ Q u s:=⟨v,H,I,r,h⟩
 rcases l with⟨hk,hm⟩|⟨hk,c,hc,hcell⟩
 ·exact M1 (Kp I.ok.kind hk hn hm fin) hd
 ·rcases hk with hk | hk;·exact M1 (KA I.ok.kind hk hc hcell fin) hd
  ·exact M1 (wpAny_loadName_free I.ok.kind hk hc hcell fin hcd) hd
theorem aa{i j pos}:PE X (.Constant (.int i) j pos) (tC<|.int i):=fun _ _ _ H _ I h=>wpAny_Constant_int ⟨.int i,H,I.tok _,⟨_,rfl⟩,h⟩
theorem cz{b j pos}:PE X (.Constant (.bool b) j pos) (tC<|.bl b):=fun _ _ _ H _ I h=>Constant_bool ⟨.bl b,H,I,rfl,h⟩
theorem iE{j pos}:PE X (.Constant .none j pos) (tC .non):=fun _ _ _ H _ I h=>Constant_none ⟨.non,H,I,rfl,h⟩
theorem aM{x j pos}:PE X (.Constant (.str x) j pos) (tC<|.str x):=fun _ _ _ H _ I h=>Calls.Constant_str ⟨.str x,H,I.tok _,⟨_,rfl⟩,h⟩
def Gl(X:Cx)(x:Str):Prop:=X.env.kindOf x=some .globalImplicit
theorem pL{E:DM->DN->Prop}{pins:List (Addr×Obj)}{s:DN}{σ:St}{H:Hp}{x:Str}{u:DM}{pos:Pos}{Q:DM->DN->Prop}(I:Inv X pins σ H s)(hg:Gl X x)(hm:X.mg x=some u)(h:Q u s)
  (hd:(x==("__debug__" :Str))=false:=by decide):wpAny (model X.prog X.w) X.A (eval (.Name x pos) X.env) Q E s:=
 IZ I.ok.kind hg (Calls.loadGlobal_global (by rw[I.ok.glob];exact I.mod.glob.keeps I.bk) hm h) hd
theorem fw{E:DM->DN->Prop}{pins:List (Addr×Obj)}{s:DN}{σ:St}{H:Hp}{x:Str}{u:DM}{pos:Pos}{Q:DM->DN->Prop}(I:Inv X pins σ H s)(hg:Gl X x)(hm:X.mg x=none)(hv:bootBuiltins x=some u)(h:Q u s)
  (hn:x≠"__name__":=by decide) (hd:(x==("__debug__" :Str))=false:=by decide):wpAny (model X.prog X.w) X.A (eval (.Name x pos) X.env) Q E s:=by
 obtain⟨mb,h1,h2⟩:=I.mod.blt;exact IZ I.ok.kind hg (Calls.loadGlobal_builtin (by rw[I.ok.glob];exact I.mod.glob.keeps I.bk) hm (by rw[I.ok.blt];exact h1.keeps I.bk) ((h2 x hn).trans hv) h) hd
theorem cN{x:Str}{v:V}{u:DM}{pos:Pos}(hg:Gl X x)(hm:X.mg x=some u)(r:RelV v u)(hd:(x==("__debug__" :Str))=false:=by decide):PE X (.Name x pos) (tC v):=
 fun _ _ _ H _ I h=>pL I hg hm ⟨v,H,I,r,h⟩ hd
theorem cE{x:Str}{v:V}{u:DM}{pos:Pos}(hg:Gl X x)(hm:X.mg x=none)(hv:bootBuiltins x=some u)(r:RelV v u)(hn:x≠"__name__":=by decide)(hd:(x==("__debug__" :Str))=false:=by decide):PE X (.Name x pos) (tC v):=
 fun _ _ _ H _ I h=>fw I hg hm hv ⟨v,H,I,r,h⟩ hn hd
variable{a b:Expr}{ta tb:TE}{pos:Pos}
def tB(t:TE):TT:=fun σ H Q=>t σ H fun x H1=>∃c,x=.bl c/\Q c H1
theorem bS{e:Expr}{t:TE}(h:PE X e t)(he:∀whole,isTrue e X.env whole=(do let v <-whole;standAt e.pos;holding [v] (truthy v)):=by intro _;rfl):PT X e (tB t):=by
 intro pins s σ H Q I hw;refine isTrue_plain (bG (h pins s σ H _ I hw) fun v s1⟨x,H1,I1,r1,q1⟩=>?_)<|he _;obtain⟨d,rfl,q⟩:=q1;cases r1;exact Hm ⟨H1,I1,q⟩
variable{tA tB':TT}{rest:List Expr}
def Aj(t u:TT):TT:=fun σ H Q=>t σ H fun c H1=>if c=true then u σ H1 Q else Q false H1
def CC(t u:TT):TT:=fun σ H Q=>t σ H fun c H1=>if c=true then Q true H1 else u σ H1 Q
def Ak(t:TT):TT:=fun σ H Q=>t σ H fun c H1=>Q (!c) H1
theorem eM(ha:PT X a tA):PW X (.BoolOp .And [a] pos) tA:=by
 intro wh pins s σ H Q I h;refine isTrue_and<|bG (ha pins s σ H Q I h) fun c s1 e=>?_;cases c with
 |true=>exact isTrue_and_nil e
 |false=>exact e
theorem dW(ha:PT X a tA):PW X (.BoolOp .Or [a] pos) tA:=by
 intro wh pins s σ H Q I h;refine isTrue_or<|bG (ha pins s σ H Q I h) fun c s1 e=>?_;cases c with
 |false=>exact isTrue_or_nil e
 |true=>exact e
theorem fz(ha:PT X a tA)(hb:PW X (.BoolOp .And (b::rest) pos) tB'):PW X (.BoolOp .And (a::b::rest) pos) (Aj tA tB'):=by
 intro wh pins s σ H Q I h;refine isTrue_and<|bG (ha pins s σ H _ I h) fun c s1 zz=>?_;obtain⟨H1,I1,q1⟩:=zz;cases c with
 |true=>exact hb wh pins s1 σ H1 Q I1 q1
 |false=>exact⟨H1,I1,q1⟩
theorem eN(ha:PT X a tA)(hb:PW X (.BoolOp .Or (b::rest) pos) tB'):PW X (.BoolOp .Or (a::b::rest) pos) (CC tA tB'):=by
 intro wh pins s σ H Q I h;refine isTrue_or<|bG (ha pins s σ H _ I h) fun c s1 zz=>?_;obtain⟨H1,I1,q1⟩:=zz;cases c with
 |true=>exact⟨H1,I1,q1⟩
 |false=>exact hb wh pins s1 σ H1 Q I1 q1
theorem d9(ha:PT X a tA):PT X (.UnaryOp .Not a pos) (Ak tA):=by
 intro pins s σ H Q I h;exact isTrue_not<|ha pins s σ H (fun c H1=>Q (!c) H1) I h
def yn(ta tb:TE):TE:=fun σ H Q=>ta σ H fun x H1=>∃c,x=.bl c/\if c=true then tb σ H1 Q else Q (.bl false) H1
def Al(ta tb:TE):TE:=fun σ H Q=>ta σ H fun x H1=>∃c,x=.bl c/\if c=true then Q (.bl true) H1 else tb σ H1 Q
theorem lE{op}{t:TE}(h:PE X a t):PE X (.BoolOp op [a] pos) t:=fun pins s σ H Q I hw=>BoolOp_one<|h pins s σ H Q I hw
theorem oo(ha:PE X a ta)(hb:PE X (.BoolOp .And (b::rest) pos) tb):PE X (.BoolOp .And (a::b::rest) pos) (yn ta tb):=by
 intro pins s σ H Q I h;refine BoolOp_and<|bG (ha pins s σ H _ I h) fun v s1 zz=>?_;obtain⟨x,H1,I1,r1,q1⟩:=zz;obtain⟨c,rfl,q1⟩:=q1;cases r1;refine Hm ?_;cases c with
 |true=>exact hb pins s1 σ H1 Q I1 q1
 |false=>exact⟨.bl false,H1,I1,rfl,q1⟩
theorem Am(ha:PE X a ta)(hb:PE X (.BoolOp .Or (b::rest) pos) tb):PE X (.BoolOp .Or (a::b::rest) pos) (Al ta tb):=by
 intro pins s σ H Q I h;refine BoolOp_or<|bG (ha pins s σ H _ I h) fun v s1 zz=>?_;obtain⟨x,H1,I1,r1,q1⟩:=zz;obtain⟨c,rfl,q1⟩:=q1;cases r1;refine Hm ?_;cases c with
 |false=>exact hb pins s1 σ H1 Q I1 q1
 |true=>exact⟨.bl true,H1,I1,rfl,q1⟩
def CD(t:TT)(ta tb:TE):TE:=fun σ H Q=>t σ H fun c H1=>if c=true then ta σ H1 Q else tb σ H1 Q
theorem dX{c:Expr}(hc:PT X c tA)(ha:PE X a ta)(hb:PE X b tb):PE X (.IfExp c a b pos) (CD tA ta tb):=by
 intro pins s σ H Q I h;refine wpAny_IfExp<|bG (hc pins s σ H _ I h) fun d s1 zz=>?_;obtain⟨H1,I1,q1⟩:=zz;cases d with
 |true=>exact ha pins s1 σ H1 Q I1 q1
 |false=>exact hb pins s1 σ H1 Q I1 q1
end
def SqL(K:DJ)(H:Hp)(a:Addr)(xs:List V):Prop:=
 Rd H a (.lst xs)\/
  ∃(o:Obj)(its:Array DM)(n:Nat),K.lookup a=some o/\o.cls=.type "list"/\o.dict=none/\o.data=.seq its n/\its.size<=sizeLine/\Vals xs its.toList
def SqT(K:DJ)(H:Hp)(a:Addr)(xs:List V):Prop:=
 Rd H a (.tup xs)\/
  ∃(o:Obj)(its:Array DM)(n:Nat),K.lookup a=some o/\(o.cls=.type "tuple"/\o.dict=none)/\o.data=.seq its n/\its.size<=sizeLine/\Vals xs its.toList
def Cj:DM->Option V
 | .none=>some .non
 | .bool b=>some<|.bl b
 | .int i _=>some<|.int i
 | .str x _=>some<|.str x
 | .bytes b _=>some<|.byt b
 | .float b _=>some<|.flt b
 | .ref a=>some<|.ref a
 | .type n=>some<|.ty n
 |_=>none
theorem RelV.abs{x:V}{u:DM}(r:RelV x u):Cj u=some x:=by
 cases x with
 |non=>cases r;rfl
 |bl _=>cases r;rfl
 |int _=>obtain⟨t,rfl⟩:=r;rfl
 |str _=>obtain⟨t,rfl⟩:=r;rfl
 |byt _=>obtain⟨t,rfl⟩:=r;rfl
 |flt _=>obtain⟨t,rfl⟩:=r;rfl
 |ref _=>cases r;rfl
 |ty _=>cases r;rfl
theorem RelV.inj{x y:V}{u:DM}(r:RelV x u)(q:RelV y u):x=y:=Es<|r.abs.symm.trans q.abs
theorem Vals.inj:∀{xs ys:List V}{us:List DM},Vals xs us->Vals ys us->xs=ys
 |_,_,_,.nil,.nil=>rfl
 |_,_,_,.cons r t,.cons r' t'=>by rw[r.inj r',Vals.inj t t']
section
variable{X:Cx}{pins:List (Addr×Obj)}{σ:St}{H:Hp}{s:DN}{a:Addr}{xs ys:List V}
theorem SqL.of{K:DJ}(h:H a=some (.lst xs)):SqL K H a xs:=.inl<|.inl h
theorem SqT.of{K:DJ}(h:H a=some (.tup xs)):SqT K H a xs:=.inl<|.inl h
theorem Inv.list(I:Inv X pins σ H s)(h:SqL X.K H a xs):∃its:List DM,Vals xs its/\PlainL s.heap a its.toArray/\xs.length<=sizeLine:=by
 rcases h with h|⟨o,its,n,hk,hc,hd,hs,hz,r⟩
 ·obtain⟨z,its,n,r,e⟩:=h.ok I.hok;exact⟨its,r,⟨_,n,e,rfl,rfl,rfl⟩,z⟩
 ·refine⟨its.toList,r,⟨o,n,I.kIn a o hk,hc,hd,by simpa using hs⟩,?_⟩;have e:=r.length;simp only[Eu]at e;omega
theorem Inv.tuple(I:Inv X pins σ H s)(h:SqT X.K H a xs):∃its:List DM,Vals xs its/\IsTup s.heap a its.toArray/\xs.length<=sizeLine:=by
 rcases h with h|⟨o,its,n,hk,hc,hs,hz,r⟩
 ·obtain⟨z,its,r,p⟩:=h.ok I.hok;exact⟨its,r,p.tup,z⟩
 ·refine⟨its.toList,r,⟨o,I.kIn a o hk,hc.1,n,by simpa using hs⟩,?_⟩;have e:=r.length;simp only[Eu]at e;omega
theorem Inv.list_inj(I:Inv X pins σ H s)(h:SqL X.K H a xs)(h':SqL X.K H a ys):xs=ys:=by
 obtain⟨its,r,⟨o,n,e,_,_,d⟩,_⟩:=I.list h;obtain⟨its',r',⟨o',n',e',_,_,d'⟩,_⟩:=I.list h';rw[e]at e';cases e';rw[d]at d';injection d' with d1 _;have:its=its':=by simpa using congrArg MV d1
 subst this;exact r.inj r'
theorem Inv.tuple_inj(I:Inv X pins σ H s)(h:SqT X.K H a xs)(h':SqT X.K H a ys):xs=ys:=by
 obtain⟨its,r,⟨o,e,_,n,d⟩,_⟩:=I.tuple h;obtain⟨its',r',⟨o',e',_,n',d'⟩,_⟩:=I.tuple h';rw[e]at e';cases e';rw[d]at d';injection d' with d1 _;have:its=its':=by simpa using congrArg MV d1
 subst this;exact r.inj r'
end
abbrev Cx.wish(X:Cx)(E:DM->DN->Prop):Cx:={X with xe:=E}
abbrev Cx.nox(X:Cx):Cx:=X.wish fun _ _=>False
theorem Cx.Ok.wish{X:Cx}(ok:X.Ok)(E:DM->DN->Prop):(X.wish E).Ok:=
 ⟨ok.mod,ok.kind,ok.glob,ok.blt,ok.above,ok.inj,ok.has,ok.cab,ok.hd,ok.frames,ok.stk,ok.exf,ok.bs,ok.bsz,ok.noex,ok.exfs,ok.funs,ok.frf⟩
theorem Cx.Ok.unwish{X:Cx}{E:DM->DN->Prop}(ok:(X.wish E).Ok):X.Ok:=
 ⟨ok.mod,ok.kind,ok.glob,ok.blt,ok.above,ok.inj,ok.has,ok.cab,ok.hd,ok.frames,ok.stk,ok.exf,ok.bs,ok.bsz,ok.noex,ok.exfs,ok.funs,ok.frf⟩
section
variable{X:Cx}{pins:List (Addr×Obj)}{σ:St}{H:Hp}{s:DN}{E:DM->DN->Prop}
theorem Inv.wish(I:Inv X pins σ H s)(E:DM->DN->Prop):Inv (X.wish E) pins σ H s:=⟨I.ok.wish E,I.os,I.bare,I.base,I.loc,I.cell,I.free,I.freeC,I.pin,I.hok,I.len⟩
theorem Inv.unwish(I:Inv (X.wish E) pins σ H s):Inv X pins σ H s:=⟨I.ok.unwish,I.os,I.bare,I.base,I.loc,I.cell,I.free,I.freeC,I.pin,I.hok,I.len⟩
theorem SP.unwish{D:Ends}{f:Flow}{s':DN}(h:SP (X.wish E) pins D f s'):SP X pins D f s':=by
 cases f with
 |next=>obtain⟨σ',H',I,q⟩:=h;exact⟨σ',H',I.unwish,q⟩
 |brk=>obtain⟨σ',H',I,q⟩:=h;exact⟨σ',H',I.unwish,q⟩
 |cont=>obtain⟨σ',H',I,q⟩:=h;exact⟨σ',H',I.unwish,q⟩
 |ret u=>obtain⟨v,σ',H',I,r,q⟩:=h;exact⟨v,σ',H',I.unwish,r,q⟩
theorem PSs.nox{st:List Stmt}{t:TS}(h:PSs X.nox st t):PSs X st t:=fun pins s σ H D I hw=>
 F5 (h pins s σ H D (I.wish _) hw) (fun _ _ q=>q.unwish) fun _ _ z=>Ha z
end
section
variable{X:Cx}{st:Stmt}{rest:List Stmt}{t u:TS}{e:Expr}{te:TE}{pos:Pos}
def aV:TS:=fun D σ H=>D.nx σ H
def iF(t u:TS):TS:=fun D σ H=>t {D with nx:=u D} σ H
theorem aG:PSs X [] aV:=fun _ _ σ H _ I h=>II ⟨σ,H,I,h⟩
theorem ae(h1:PS X st t)(h2:PSs X rest u):PSs X (st::rest) (iF t u):=by
 intro pins s σ H D I h;refine Lv<|bG (h1 pins s σ H {D with nx:=u D} I h) fun f s1 q=>?_;cases f with
 |next=>
  obtain⟨σ',H',I',q⟩:=q;exact h2 pins s1 σ' H' D I' q
 |ret v=>exact q
 |brk=>exact q
 |cont=>exact q
theorem ag(h1:PS X st t):PSs X [st] t:=by
 intro pins s σ H D I h;refine Lv<|bG (h1 pins s σ H D I h) fun f s1 q=>?_;cases f with
 |next=>exact II q
 |ret v=>exact q
 |brk=>exact q
 |cont=>exact q
theorem Inv.quiet{pins:List (Addr×Obj)}{σ:St}{H:Hp}{s:DN}(I:Inv X pins σ H s):interactive X.env=false:=by simp[interactive,I.ok.kind]
def tj(te:TE):TS:=fun D σ H=>te σ H fun _ H1=>D.nx σ H1
theorem dF(he:PE X e te)(hs:swapsWith e none pos.line X.env=pure false:=by rfl):PS X (.Expr e pos) (tj te):=by
 intro pins s σ H D I h;exact wpAny_Expr_any (bG (he pins s σ H _ I h) fun v s1⟨x,H1,I1,r1,q1⟩=>⟨σ,H1,I1,q1⟩) I.quiet hs
def yO(te:TE):TS:=fun D σ H=>te σ H D.rt
theorem ax(he:PE X e te):PS X (.Return (some e) pos) (yO te):=by
 intro pins s σ H D I h;refine wpAny_Return_some<|bG (he pins s σ H _ I h) fun v s1 zz=>?_;obtain⟨x,H1,I1,r1,q1⟩:=zz;exact⟨x,σ,H1,I1,r1,q1⟩
def tm(c:TT)(t u:TS):TS:=fun D σ H=>c σ H fun b H1=>if b=true then t D σ H1 else u D σ H1
theorem aT{c:Expr}{a b:List Stmt}{tc:TT}(hc:PT X c tc)(ha:PSs X a t)(hb:PSs X b u):PS X (.If c a b pos) (tm tc t u):=by
 intro pins s σ H D I h;refine wpAny_If<|bG (hc pins s σ H _ I h) fun d s1 zz=>?_;obtain⟨H1,I1,q1⟩:=zz;cases d with
 |true=>exact ha pins s1 σ H1 D I1 q1
 |false=>exact hb pins s1 σ H1 D I1 q1
def yP:TS:=fun _ _ _=>False
end
abbrev TG:=V->St->Hp->(St->Hp->Prop)->Prop
abbrev yo:=List V->St->Hp->(St->Hp->Prop)->Prop
def PG(X:Cx)(target:Expr)(t:TG):Prop:=
 ∀(pins:List (Addr×Obj))(s:DN)(σ:St)(H:Hp)(v:V)(u:DM)(Q:St->Hp->Prop),Inv X pins σ H s->RelV v u->t v σ H Q->
  wpAny (model X.prog X.w) X.A (assign target X.env u) (fun _ s'=>∃σ' H',Inv X pins σ' H' s'/\Q σ' H') X.xe s
def An(X:Cx)(ts:List Expr)(t:yo):Prop:=
 ∀(pins:List (Addr×Obj))(s:DN)(σ:St)(H:Hp)(vs:List V)(us:List DM)(Q:St->Hp->Prop),Inv X pins σ H s->Vals vs us->t vs σ H Q->
  wpAny (model X.prog X.w) X.A (assignInOrder ((assignEach ts X.env).map (·.2)) us) (fun _ s'=>∃σ' H',Inv X pins σ' H' s'/\Q σ' H') X.xe s
abbrev yQ:=V->V->V->Hp->(Hp->Prop)->Prop
def Ao(X:Cx)(t:yQ):Prop:=
 ∀(pins:List (Addr×Obj))(s:DN)(σ:St)(H:Hp)(o i v:V)(ov iv u:DM)(Q:Hp->Prop),Inv X pins σ H s->RelV o ov->RelV i iv->RelV v u->t o i v H Q->
  wpAny (model X.prog X.w) X.A (setItem ov iv u) (fun _ s'=>∃H',Inv X pins σ H' s'/\Q H') X.xe s
abbrev Ap:=V->V->Hp->VK->Prop
def Bs(X:Cx)(op:Na)(t:Ap):Prop:=
 ∀(pins:List (Addr×Obj))(s:DN)(σ:St)(H:Hp)(x y:V)(v u:DM)(Q:VK),Inv X pins σ H s->RelV x v->RelV y u->t x y H Q->
  wpAny (model X.prog X.w) X.A (inplaceOp op v u) (EP X pins σ Q) X.xe s
section
variable{X:Cx}{pos:Pos}
def d5(i:Nat):TG:=fun v σ H Q=>Q (σ.set i<|some v) H
theorem bo{i:Nat}{x:Str}(hN:X.N.Nodup)(hi:X.N[i]? =some x)(hx:ym X.env.scope x)(hf:X.fn x=true\/X.env.scope.names.lookup x=some .local:=by first|exact .inl rfl|exact .inr rfl|assumption):PG X (.Name x pos) (d5 i):=by
 intro pins s σ H v u Q I r h;exact La<|jt I hN hi hx r (fun s' I'=>⟨_,H,I',h⟩) hf
def yR:yo:=fun vs σ H Q=>vs=[]/\Q σ H
def kR(t:TG)(u:yo):yo:=fun vs σ H Q=>∃v r,vs=v::r/\t v σ H fun σ' H'=>u r σ' H' Q
theorem br:An X [] yR:=by
 intro pins s σ H vs us Q I r h;obtain⟨e,h⟩:=h;subst e;cases r;exact assignInOrder_nil ⟨σ,H,I,h⟩
theorem au{e:Expr}{es:List Expr}{t:TG}{u:yo}(h1:PG X e t)(h2:An X es u)
  (hs:(assignEach (e::es) X.env).map (·.2)=assign e X.env::(assignEach es X.env).map (·.2):=by rfl):An X (e::es) (kR t u):=by
 intro pins s σ H vs us Q I r h;obtain⟨v,vr,e1,h⟩:=h;subst e1;cases r with
 |cons r rr=>
  rw[hs];refine assignInOrder_cons<|bG (h1 pins s σ H _ _ _ I r h) fun _ s1 zz=>?_;obtain⟨σ1,H1,I1,q1⟩:=zz;exact h2 pins s1 σ1 H1 _ _ Q I1 rr q1
def wt(K:DJ)(n:Nat)(t:yo):TG:=fun v σ H Q=>∃a xs,v=.ref a/\SqT K H a xs/\xs.length=n/\t xs σ H Q
theorem yT{es:List Expr}{k:Nat}{t:yo}{n:Nat}(hc:X.calm=true)(h:An X es t)
  (hn:(assignEach es X.env).length=n:=by rfl) (hst:(assignEach es X.env).findIdx? (·.1)=none:=by rfl):PG X (.Tuple es k pos) (wt X.K n t):=by
 intro pins s σ H v u Q I r hw;obtain⟨a,xs,e1,hq,hl,hw⟩:=hw;subst e1;cases r;obtain⟨its,rv,ht,hz⟩:=I.tuple hq;refine assign_Tuple_tuple (I.ok.hd hc) ht (by simp[hn,<-hl,rv.length]) hst fun h' hx=>?_;have I1:Inv X pins σ H {s with heap:=h'}:=I.kept (t':=s.toks) fun b o e=>hx b o (Ed<|DW e) e;exact h pins _ σ H xs _ Q I1 (by simpa using rv) hw
def yV(to ti:TE)(t:yQ):TG:=fun v σ H Q=>to σ H fun o H1=>ti σ H1 fun i H2=>t o i v H2 fun H3=>Q σ H3
theorem ju{o i:Expr}{to ti:TE}{t:yQ}(ho:PE X o to)(hi:PE X i ti)(hs:Ao X t)
  (ha:∀v,assign (.Subscript o i pos) X.env v=(do
   let ov <-holding [v] (eval o X.env)
   let iv <-holding [v,ov] (eval i X.env)
   standAt pos
   holding [v,ov,iv] (setItem ov iv v)
   release [v,ov,iv] []):=by intro _;rfl):PG X (.Subscript o i pos) (yV to ti t):=by
 intro pins s σ H v u Q I r h;rw[ha];refine DF<|Fz<|bG (ho pins s σ H _ I h) fun ov s1 zz=>?_;obtain⟨x,H1,I1,r1,q1⟩:=zz;refine DF<|Fz<|bG (hi pins s1 σ H1 _ I1 q1) fun iv s2 zz=>?_;obtain⟨y,H2,I2,r2,q2⟩:=zz;refine DF<|Gq<|DF<|Fz<|bG (hs pins s2 σ H2 x y v ov iv u _ I2 r1 r2 r q2) fun _ s3 zz=>?_;obtain⟨H3,I3,q3⟩:=zz;exact wpAny_release ⟨σ,H3,I3,q3⟩
def iG(te:TE)(g:TG):TS:=fun D σ H=>te σ H fun x H1=>g x σ H1 D.nx
theorem de{tg e:Expr}{te:TE}{g:TG}(he:PE X e te)(hg:PG X tg g)(hs:swapsWithSole [tg] e pos.line X.env=pure false:=by rfl)(hw:swappedStores [tg] e X.env=pure none:=by rfl)
  (h1:(assignEach [tg] X.env).map (·.2)=[assign tg X.env]:=by rfl):PS X (.Assign [tg] e pos) (iG te g):=by
 intro pins s σ H D I h;refine wpAny_Assign_stores (bG (he pins s σ H _ I h) fun v s1⟨x,H1,I1,r1,q1⟩=>?_) hs hw;rw[h1];exact bG (hg pins s1 σ H1 x v _ I1 r1 q1) fun _ s2 q=>q
theorem yW{i:Nat}{x:Str}{e:Expr}{te:TE}{pos':Pos}(hN:X.N.Nodup)(hi:X.N[i]? =some x)(hx:ym X.env.scope x)(he:PE X e te)(hs:swapsWith e (some<|.Name x pos') pos.line X.env=pure false:=by rfl)(hf:X.fn x=true\/X.env.scope.names.lookup x=some .local:=by first|exact .inl rfl|exact .inr rfl|assumption):
  PS X (.Assign [.Name x pos'] e pos) (iG te<|d5 i):=by
 intro pins s σ H D I h;refine wpAny_Assign_Name (bG (he pins s σ H _ I h) fun v s1⟨y,H1,I1,r1,q1⟩=>?_) hs;exact jt I1 hN hi hx r1 (fun s2 I2=>⟨_,H1,I2,q1⟩) hf
def wu(i:Nat)(te:TE)(ti:Ap):TS:=fun D σ H=>∃x,σ[i]? =some (some x)/\te σ H fun y H1=>ti x y H1 fun z H2=>D.nx (σ.set i<|some z) H2
theorem lF{i:Nat}{x:Str}{e:Expr}{te:TE}{op:Na}{ti:Ap}{pos':Pos}(hN:X.N.Nodup)(hi:X.N[i]? =some x)(hx:ym X.env.scope x)(he:PE X e te)(ho:Bs X op ti)(hf:X.fn x=true\/X.env.scope.names.lookup x=some .local:=by first|exact .inl rfl|exact .inr rfl|assumption):
  PS X (.AugAssign (.Name x pos') op e pos) (wu i te ti):=by
 intro pins s σ H D I h;obtain⟨v,e1,h⟩:=h;obtain⟨m,hn,hl⟩:=I.loc;have A6:Vis X.env.scope x:=by rcases hx with k|k;exact .inl k;exact .inr<|.inl k
 obtain⟨u,r,l⟩:=hl i x v hi e1 A6;refine wpAny_AugAssign_Name ?_;have go:wpAny (model X.prog X.w) X.A (eval e X.env) (fun w s₂=>wpAny (model X.prog X.w) X.A (inplaceOp op u w) (fun r s₃=>wpAny (model X.prog X.w) X.A (storeName X.env x r) (fun _=>SP X pins D .next) X.xe s₃) X.xe s₂) X.xe s:=by
  refine bG (he pins s σ H _ I h) fun w s1 zz=>?_;obtain⟨y,H1,I1,r1,q1⟩:=zz;refine bG (ho pins s1 σ H1 v y u w _ I1 r r1 q1) fun z s2 zz=>?_;obtain⟨zv,H2,I2,r2,q2⟩:=zz;exact jt I2 hN hi hx r2 (fun s3 I3=>⟨_,H2,I3,q2⟩) hf
 rcases l with⟨hk,hm⟩|⟨hk,c,hc,hcell⟩
 ·exact Kp I.ok.kind hk hn hm go
 ·rcases hk with hk | hk;·exact KA I.ok.kind hk hc hcell go
  ·rcases hx with k | k
   ·have:X.env.scope.names.lookup x=some .free:=hk;rw[k]at this;cases this
   ·have:X.env.scope.names.lookup x=some .free:=hk;rw[k]at this;cases this
def Bt(f:Int->Int->Int):Ap:=fun x y H Q=>∃i j,x=.int i/\y=.int j/\Q (.int<|f i j) H
theorem tq:Bs X .Add (Bt fun i j=>i+j):=by
 intro pins s σ H x y v u Q I r1 r2 h;obtain⟨i,j,e1,e2,q⟩:=h;subst e1;subst e2;obtain⟨t,rfl⟩:=r1;obtain⟨t',rfl⟩:=r2;exact iadd_int ⟨.int _,H,I.tok _,⟨_,rfl⟩,q⟩
theorem yX:Bs X .Sub (Bt fun i j=>i-j):=by
 intro pins s σ H x y v u Q I r1 r2 h;obtain⟨i,j,e1,e2,q⟩:=h;subst e1;subst e2;obtain⟨t,rfl⟩:=r1;obtain⟨t',rfl⟩:=r2;exact isub_int ⟨.int _,H,I.tok _,⟨_,rfl⟩,q⟩
end
section
variable{X:Cx}{pos:Pos}
def oq(c:TT)(tb:TS):TS:=fun D σ H=>∃W:Nat->St->Hp->Prop,(∃m,W m σ H)/\∀m σ H,W m σ H->
 c σ H fun b H1=>if b=true then ∃N:St->Hp->Prop,(∀σ' H',N σ' H'->∃m',m'<m/\W m' σ' H')/\tb {D with nx:=N,ct:=N,bk:=D.nx} σ H1 else D.nx σ H1
theorem mO{c:Expr}{body:List Stmt}{tc:TT}{tb:TS}(hp:PassesOwn (model X.prog X.w) X.A X.env X.xe)(hc:PT X c tc)(hb:PSs X body tb):PS X (.While c body [] pos) (oq tc tb):=by
 intro pins s σ H D I h;obtain⟨W,⟨m0,w0⟩,turn⟩:=h;refine wpAny_While<|codeAny_whileLoop (fun n s'=>∃σ' H',Inv X pins σ' H' s'/\W n σ' H') ?_ m0 ⟨σ,H,I,w0⟩;rintro n s1 ⟨σ1,H1,I1,w1⟩;refine GA hp<|bG (hc pins s1 σ1 H1 _ I1<|turn n σ1 H1 w1) fun b s2 zz=>?_;obtain⟨H2,I2,q2⟩:=zz;cases b with
 |true=>
  obtain⟨N,hN,q2⟩:=q2;rw[if_pos rfl];refine GA hp<|bG (hb pins s2 σ1 H2 _ I2 q2) fun f s3 q3=>?_;cases f with
  |next=>
   obtain⟨σ3,H3,I3,n3⟩:=q3;obtain⟨m',hm,w3⟩:=hN σ3 H3 n3;exact⟨m',hm,σ3,H3,I3,w3⟩
  |cont=>
   obtain⟨σ3,H3,I3,n3⟩:=q3;obtain⟨m',hm,w3⟩:=hN σ3 H3 n3;exact⟨m',hm,σ3,H3,I3,w3⟩
  |brk=>exact q3
  |ret v=>exact q3
 |false=>
  rw[if_neg E3];exact II ⟨σ1,H2,I2,q2⟩
end
structure It where
 go:Nat->Hp->Prop
 yld:Nat->Hp->V->Hp->Prop
 stop:Nat->Hp->Prop
def FpOk(X:Cx)(pins:List (Addr×Obj))(H:Hp)(b:Addr):Prop:=
 H b=none/\b≠X.env.locals/\b∉X.fs/\(b∈X.ex\/X.s₀.heap.objs.size<=b)/\(∀x c,X.env.cells.lookup x=some c->c≠b)/\∀p∈X.pn++pins,p.1≠b
theorem Inv.fpOk{X:Cx}{pins:List (Addr×Obj)}{σ:St}{H H':Hp}{s:DN}{b:Addr}(I:Inv X pins σ H s)(hb:s.heap.objs.size<=b)(hn:H' b=none):FpOk X pins H' b:=by
 refine⟨hn,Hc<|DV I.lt hb,I.nofs hb,.inr<|FO I.sz hb,fun x c e z=>?_,fun p hp z=>?_⟩
 ·obtain⟨v,q⟩:=I.cell x c e;exact absurd (DV q.lt (by rw[z];exact hb))<|Fi _
 ·exact absurd (DV (DW (I.pin p hp).1) (by rw[z];exact hb))<|Fi _
structure Turn(P:E4)(w:E8)(K:DJ)(tg:Expr)(J:It)(fp:List Addr)(it:Addr)(tn:Nat->Heap->Prop):Prop where
 mem:it∈fp
 obj:∀i h,tn i h->∀b∈fp,∃o,h.get? b=some o/\∀v,o.data≠.cell v
 keep:∀i h h',tn i h->(∀b∈fp,∀o,h.get? b=some o->h'.get? b=some o)->tn i h'
 item:∀(X:Cx),X.prog=P->X.w=w->X.K=K->X.calm=true->∀(i:Nat)(pins:List (Addr×Obj))(s:DN)(σ:St)(H:Hp)(E:DM->DN->Prop),Inv X pins σ H s->(∀b∈fp,FpOk X pins H b)->tn i s.heap->J.go i H->
  wpAny (model P w) X.A (pyNext<|.ref it) (fun r s1=>∃u,r=some u/\
   wpAny (model P w) X.A (letOwnedTupleGo tg (.ref it) u) (fun _ s2=>∃x H',Inv X pins σ H' s2/\RelV x u/\J.yld i H x H'/\tn (i+1) s2.heap/\∀b∈fp,H' b=none) E s1) E s
 done:∀(X:Cx),X.prog=P->X.w=w->X.K=K->X.calm=true->∀(i:Nat)(pins:List (Addr×Obj))(s:DN)(σ:St)(H:Hp)(E:DM->DN->Prop),Inv X pins σ H s->(∀b∈fp,FpOk X pins H b)->tn i s.heap->J.stop i H->
  wpAny (model P w) X.A (pyNext<|.ref it) (fun r s1=>r=none/\Inv X pins σ H s1) E s
 self:∀(A:EB)(i:Nat)(s:DN)(Q:DM->DN->Prop)(E:DM->DN->Prop),tn i s.heap->Q (.ref it) s->wpAny (model P w) A (pyIter<|.ref it) Q E s
abbrev TI:=St->Hp->(It->Hp->Prop)->Prop
def Ck(X:Cx)(pins:List (Addr×Obj))(σ:St)(tg:Expr)(R:It->Hp->Prop)(itv:DM)(s2:DN):Prop:=
 ∃(it:Addr)(fp:List Addr)(tn:Nat->Heap->Prop)(J:It)(H':Hp),itv=.ref it/\Inv X pins σ H' s2/\Turn X.prog X.w X.K tg J fp it tn/\tn 0 s2.heap/\(∀b∈fp,FpOk X pins H' b)/\R J H'
def PI(X:Cx)(tg iter:Expr)(wi:TI):Prop:=
 ∀(pins:List (Addr×Obj))(s:DN)(σ:St)(H:Hp)(R:It->Hp->Prop),Inv X pins σ H s->wi σ H R->
  wpAny (model X.prog X.w) X.A (eval iter X.env) (fun v s1=>wpAny (model X.prog X.w) X.A (pyIter v) (Ck X pins σ tg R) X.xe s1) X.xe s
theorem kS{M:K5}{A:EB}{E:DM->DN->Prop}{s:DN}{tg:Expr}{it:Addr}{u:DM}{o:Obj}{n:String}{vs:Array DM}{Q:Unit->DN->Prop}(ho:s.heap.get? it=some o)(hc:o.cls=.type n)(hd:o.data=.fields vs)
    (hn:["enumerate","zip","dict_itemiterator","dict_reverseitemiterator","odict_iterator","itertools.zip_longest","itertools.pairwise"].contains n=false) (hQ:Q () s):wpAny M A (letOwnedTupleGo tg (.ref it) u) Q E s:=by
  unfold letOwnedTupleGo
  cases tg<;>first
    |exact DL hQ
    |(cases u<;>first
        |exact DL hQ
        | (refine DF (wpAny_load ho ?_)
           rw[hc,hd];show wpAny M A (if(["enumerate","zip","dict_itemiterator","dict_reverseitemiterator","odict_iterator","itertools.zip_longest","itertools.pairwise"].contains n&&vs[0]? ==some (rawInt _))=true then _ else _) Q E s;rw[if_neg (by intro h;rw[hn,J3]at h;cases h)];exact DL hQ))
def CF(K:DJ)(a:Addr):It:=
 ⟨fun i H=>∃xs x,SqL K H a xs/\xs[i]? =some x,fun i H x H'=>H'=H/\∀xs,SqL K H a xs->xs[i]? =some x,fun i H=>∃xs,SqL K H a xs/\xs.length<=i⟩
def CG(K:DJ)(a:Addr):It:=
 ⟨fun i H=>∃xs x,SqT K H a xs/\xs[i]? =some x,fun i H x H'=>H'=H/\∀xs,SqT K H a xs->xs[i]? =some x,fun i H=>∃xs,SqT K H a xs/\xs.length<=i⟩
def Cm(lo:Int)(n:Nat):It:=⟨fun i _=>i<n,fun i H x H'=>H'=H/\x=.int (lo+i),fun i _=>n<=i⟩
theorem qY{P:E4}{w:E8}{K:DJ}{tg:Expr}(a it:Addr):Turn P w K tg (CF K a) [it] it (fun i h=>h.IsListIter it a i) where
 mem:=by simp
 obj:=fun i h st b hb=>by
  have e:b=it:=by simpa using hb
  subst e;obtain⟨o,e,c,d⟩:=st;exact⟨o,e,fun v z=>by rw[d]at z;cases z⟩
 keep:=fun i h h' st k=>st.at fun o e=>k it (by simp) o e
 item:=by
  intro X hP hw hK hc i pins s σ H E I hf st hg;subst hP hw hK;obtain⟨xs,x,hq,hx⟩:=hg;obtain⟨its,rv,p,hz⟩:=I.list hq;obtain⟨u,hu,ru⟩:=rv.get hx;obtain⟨f0,f1,f2,f3,f4,f5⟩:=hf it (by simp);refine wpAny_pyNext_list_item st p.isList (x:=u) (by simpa using hu) fun h' st' sb=>?_;have I1:Inv X pins σ H {s with heap:=h'}:=I.turned (t':=s.toks) (fun b o hb e=>(sb.2 b hb).trans e) f0 f1 f3 f4 f5;obtain⟨o,e,c,d⟩:=id st';exact⟨u,rfl,kS (s:={s with heap:=h'}) e c d (by decide) ⟨x,H,I1,ru,⟨rfl,fun ys hy=>by rw[I.list_inj hy hq];exact hx⟩,st',fun b hb=>(hf b hb).1⟩⟩
 done:=by
  intro X hP hw hK hc i pins s σ H E I hf st hg;subst hP hw hK;obtain⟨xs,hq,hx⟩:=hg;obtain⟨its,rv,p,hz⟩:=I.list hq;obtain⟨f0,f1,f2,f3,f4,f5⟩:=hf it (by simp);have hl:=rv.length;exact wpAny_pyNext_list_end (I.ok.hd hc) st p.isList (by simp;omega) fun h' eb=>⟨rfl,I.turned (t':=s.toks) (fun b o hb e=>eb b o hb e) f0 f1 f3 f4 f5⟩
 self:=fun _ _ _ _ _ st h=>wpAny_pyIter_listiter st h
theorem ou{P:E4}{w:E8}{K:DJ}{tg:Expr}(a it:Addr):Turn P w K tg (CG K a) [it] it (fun i h=>h.IsTupleIter it a i) where
 mem:=by simp
 obj:=fun i h st b hb=>by
  have e:b=it:=by simpa using hb
  subst e;obtain⟨o,e,c,d⟩:=st;exact⟨o,e,fun v z=>by rw[d]at z;cases z⟩
 keep:=fun i h h' st k=>st.at fun o e=>k it (by simp) o e
 item:=by
  intro X hP hw hK hc i pins s σ H E I hf st hg;subst hP hw hK;obtain⟨xs,x,hq,hx⟩:=hg;obtain⟨its,rv,p,hz⟩:=I.tuple hq;obtain⟨u,hu,ru⟩:=rv.get hx;obtain⟨f0,f1,f2,f3,f4,f5⟩:=hf it (by simp);refine wpAny_pyNext_tuple_item st (show s.heap.IsTuple a its.toArray from p) (x:=u) (by simpa using hu) fun h' st' sb=>?_;have I1:Inv X pins σ H {s with heap:=h'}:=I.turned (t':=s.toks) (fun b o hb e=>(sb.2 b hb).trans e) f0 f1 f3 f4 f5;obtain⟨o,e,c,d⟩:=id st';exact⟨u,rfl,kS (s:={s with heap:=h'}) e c d (by decide) ⟨x,H,I1,ru,⟨rfl,fun ys hy=>by rw[I.tuple_inj hy hq];exact hx⟩,st',fun b hb=>(hf b hb).1⟩⟩
 done:=by
  intro X hP hw hK hc i pins s σ H E I hf st hg;subst hP hw hK;obtain⟨xs,hq,hx⟩:=hg;obtain⟨its,rv,p,hz⟩:=I.tuple hq;obtain⟨f0,f1,f2,f3,f4,f5⟩:=hf it (by simp);have hl:=rv.length;exact wpAny_pyNext_tuple_end (I.ok.hd hc) st (show s.heap.IsTuple a its.toArray from p) (by simp;omega) fun h' eb=>⟨rfl,I.turned (t':=s.toks) (fun b o hb e=>eb b o hb e) f0 f1 f3 f4 f5⟩
 self:=fun _ _ _ _ _ st h=>wpAny_pyIter_tupleiter st h
theorem oz{P:E4}{w:E8}{K:DJ}{tg:Expr}(it:Addr)(lo:Int)(n:Nat):Turn P w K tg (Cm lo n) [it] it (fun i h=>Kq h it (lo+(i:Nat)*1) ((n:Int)-(i:Nat)) 1) where
 mem:=by simp
 obj:=fun i h st b hb=>by
  have e:b=it:=by simpa using hb
  subst e;exact⟨_,st,fun v z=>by
   have z':Iw _=Hk v:=z;cases z'⟩
 keep:=fun i h h' st k=>k it (by simp) _ st
 item:=by
  intro X hP hw hK hc i pins s σ H E I hf st hg;subst hP hw hK;obtain⟨f0,f1,f2,f3,f4,f5⟩:=hf it (by simp);have W:=Walks.range (prog:=X.prog) (w:=X.w) (I.ok.hd hc) it lo 1 n;refine W.item i s _ _ hg st fun v h' tk hv st' kk=>?_;obtain⟨t,rfl⟩:=hv;have I1:Inv X pins σ H {s with heap:=h',toks:=tk}:=I.turned (fun b o hb e=>kk b o (by simpa using hb) e) f0 f1 f3 f4 f5;refine⟨_,rfl,kS (s:={s with heap:=h',toks:=tk}) (n:="range_iterator") st' rfl rfl (by decide) ⟨.int<|lo+i,H,I1,⟨t,?_⟩,⟨rfl,rfl⟩,st',fun b hb=>(hf b hb).1⟩⟩;rw[Int.mul_one]
 done:=by
  intro X hP hw hK hc i pins s σ H E I hf st hg;subst hP hw hK;obtain⟨f0,f1,f2,f3,f4,f5⟩:=hf it (by simp);exact JU (I.ok.hd hc) st (by have:n<=i:=hg;omega) fun h' eb=>⟨rfl,I.turned (t':=s.toks) (fun b o hb e=>eb b o hb e) f0 f1 f3 f4 f5⟩
 self:=fun _ _ _ _ _ st h=>HY st h
section
variable{X:Cx}{tg:Expr}
def tu(K:DJ)(tl:TE):TI:=fun σ H R=>tl σ H fun x H1=>∃a,x=.ref a/\(∃xs,SqL K H1 a xs)/\R (CF K a) H1
def yY(K:DJ)(tl:TE):TI:=fun σ H R=>tl σ H fun x H1=>∃a,x=.ref a/\(∃xs,SqT K H1 a xs)/\R (CG K a) H1
theorem wx{l:Expr}{tl:TE}(hl:PE X l tl):PI X tg l (tu X.K tl):=by
 intro pins s σ H R I h;refine bG (hl pins s σ H _ I h) fun v s1 zz=>?_;obtain⟨x,H1,I1,r1,q1⟩:=zz;obtain⟨a,e,⟨xs,hq⟩,q⟩:=q1;subst e;cases r1;obtain⟨its,rv,p,hz⟩:=I1.list hq;refine Jo p.isList ?_;refine⟨s1.heap.objs.size,[s1.heap.objs.size],_,_,H1,rfl,I1.kept (t':=s1.toks) fun b o e=>DH _ e,qY a _,⟨_,DS _ rfl,rfl,rfl⟩,fun b hb=>?_,q⟩;have e:b=s1.heap.objs.size:=by simpa using hb
 subst e;exact I1.fpOk (DQ _)<|I1.hok.fresh<|DQ _
theorem yZ{l:Expr}{tl:TE}(hl:PE X l tl):PI X tg l (yY X.K tl):=by
 intro pins s σ H R I h;refine bG (hl pins s σ H _ I h) fun v s1 zz=>?_;obtain⟨x,H1,I1,r1,q1⟩:=zz;obtain⟨a,e,⟨xs,hq⟩,q⟩:=q1;subst e;cases r1;obtain⟨its,rv,p,hz⟩:=I1.tuple hq;refine KU (show s1.heap.IsTuple a its.toArray from p) ?_;refine⟨s1.heap.objs.size,[s1.heap.objs.size],_,_,H1,rfl,I1.kept (t':=s1.toks) fun b o e=>DH _ e,ou a _,⟨_,DS _ rfl,rfl,rfl⟩,fun b hb=>?_,q⟩;have e:b=s1.heap.objs.size:=by simpa using hb
 subst e;exact I1.fpOk (DQ _)<|I1.hok.fresh<|DQ _
theorem tx{pins:List (Addr×Obj)}{σ:St}{H:Hp}{s:DN}{R:It->Hp->Prop}{E:DM->DN->Prop}{lo hi:Int}{t u v:Tok}{tk:Nat}(I:Inv X pins σ H s)(h1: -(2^62)<=lo)(h2:lo<2^62)(h3: -(2^62)<=hi)(h4:hi<2^62)
  (q:R (Cm lo (hi-lo).toNat) H):wpAny (model X.prog X.w) X.A (pyIter<|.ref s.heap.objs.size) (Ck X pins σ tg R) E {s with heap:=s.heap.push {cls:=.type "range",data:=.fields #[.int lo t,.int hi u,.int 1 v]},toks:=tk}:=by
 refine wpAny_pyIter_range (Nb ..) (small_one h1 h2 h3 h4) ?_;have I1:Inv X pins σ H {s with heap:=s.heap.push {cls:=.type "range",data:=.fields #[.int lo t,.int hi u,.int 1 v]},toks:=tk}:=I.kept fun b o e=>DH _ e;refine⟨(s.heap.push {cls:=.type "range",data:=.fields #[.int lo t,.int hi u,.int 1 v]}).objs.size,[(s.heap.push {cls:=.type "range",data:=.fields #[.int lo t,.int hi u,.int 1 v]}).objs.size],_,_,H,rfl,
  I1.kept (t':=tk) fun b o e=>DH _ e,oz _ lo (hi-lo).toNat,?_,fun b hb=>?_,q⟩
 ·have e1:lo+((0:Nat):Int)*1=lo:=by simp
  have e2:(((hi-lo).toNat:Nat):Int)-((0:Nat):Int)=Fd lo hi 1:=by rw[rangeSize_one];split<;>omega
  show Kq _ _ (lo+((0:Nat):Int)*1) ((((hi-lo).toNat:Nat):Int)-((0:Nat):Int)) 1;rw[e1,e2];exact DS _ rfl
 ·have e:b=(s.heap.push {cls:=.type "range",data:=.fields #[.int lo t,.int hi u,.int 1 v]}).objs.size:=by simpa using hb
  subst e;exact I1.fpOk (DQ _)<|I1.hok.fresh<|DQ _
def yp(ta:TA):TI:=fun σ H R=>ta σ H fun vs H1=>∃j:Int,vs=[.int j]/\ -(2^62)<=j/\j<2^62/\R (Cm 0 j.toNat) H1
theorem iH{a:Expr}{ta:TA}{p pos:Pos}(hg:Gl X "range")(hm:X.mg "range"=none)(ha:PA X [a] ta)(hs:starEach [a] X.env=[(false,eval a X.env)]:=by rfl):PI X tg (.Call (.Name "range" p) [a] [] pos) (yp ta):=by
 intro pins s σ H R I h;refine Nc<|fw I hg hm boot_range<|F6 (bG (ha pos pins s σ H _ I h) fun us s1⟨vs,H1,I1,r1,q1⟩=>?_) hs rfl;obtain⟨j,e,q1,q2,q⟩:=q1;subst e;cases r1 with
 |cons r rr=>
  cases rr;obtain⟨t,rfl⟩:=r;exact call_range_1 (tx I1 (by omega) (by omega) q1 q2 (by simpa using q))
def tD(wi:TI)(g:TG)(tb:TS):TS:=fun D σ H=>wi σ H fun J H1=>∃W:Nat->Nat->St->Hp->Prop,(∃m,W 0 m σ H1)/\∀i m σ H,W i m σ H->
 (J.stop i H/\D.nx σ H)\/(J.go i H/\∃N:St->Hp->Prop,(∀σ' H',N σ' H'->∃m',m'<m/\W (i+1) m' σ' H')/\∀x H',J.yld i H x H'->g x σ H' fun σ2 H2=>tb {D with nx:=N,ct:=N,bk:=D.nx} σ2 H2)
def iI(fp:List Addr)(h:Heap):List (Addr×Obj):=fp.filterMap fun b=>(h.get? b).map fun o=>(b,o)
theorem dY{fp:List Addr}{h:Heap}{b:Addr}{o:Obj}(hb:b∈fp)(e:h.get? b=some o):(b,o)∈iI fp h:=HQ.mpr ⟨b,hb,by rw[e];rfl⟩
theorem qZ{fp:List Addr}{h:Heap}{p:Addr×Obj}(hp:p∈iI fp h):p.1∈fp/\h.get? p.1=some p.2:=by
 obtain⟨b,hb,e⟩:=HQ.mp hp;cases q:h.get? b with
 |none=>rw[q]at e;cases e
 |some o=>
  rw[q]at e;have e':(b,o)=p:=Es e;subst e';exact⟨hb,q⟩
theorem Inv.pinned{pins:List (Addr×Obj)}{σ:St}{H:Hp}{s:DN}{fp:List Addr}(I:Inv X pins σ H s)(hf:∀b∈fp,FpOk X pins H b)(ho:∀b∈fp,∃o,s.heap.get? b=some o/\∀v,o.data≠.cell v):Inv X (pins++iI fp s.heap) σ H s:=
 I.pins_of fun p hp=>(EI.mp hp).elim (fun z=>I.pin p<|Eo _ z) fun z=>by
  obtain⟨hb,e⟩:=qZ z;obtain⟨f0,f1,f2,_⟩:=hf p.1 hb;obtain⟨o,e',d⟩:=ho p.1 hb;rw[e]at e';cases e';exact⟨e,f0,f1,f2,d⟩
theorem Inv.unpinned{pins pl:List (Addr×Obj)}{σ:St}{H:Hp}{s:DN}(I:Inv X (pins++pl) σ H s):Inv X pins σ H s:=I.pins_of fun p hp=>I.pin p<|Eo _<|Iu _ hp
theorem bC{iter:Expr}{body:List Stmt}{wi:TI}{g:TG}{tb:TS}{pos:Pos}(hp:PassesOwn (model X.prog X.w) X.A X.env X.xe)(hc:X.calm=true)(hi:PI X tg iter wi)(hg:PG X tg g)(hb:PSs X body tb)
  (hs:∀x,foldedSetIterable iter X.env x=pure x:=by intro _;rfl):PS X (.For tg iter body [] pos) (tD wi g tb):=by
 intro pins s σ H D I h;refine wpAny_For (bG (hi pins s σ H _ I h) fun v s1 h1=>bG h1 fun itv s2 h2=>?_) hs;obtain⟨it,fp,tn,J,H2,e,I2,T,st2,f2,W,⟨m0,w0⟩,turn⟩:=h2;subst e;have stat:∀{H':Hp},(∀b∈fp,H' b=none)->∀b∈fp,FpOk X pins H' b:=fun hn b hb=>⟨hn b hb,(f2 b hb).2⟩
 refine codeAny_forLoop_any (fun n s'=>∃i σ' H',Inv X pins σ' H' s'/\tn i s'.heap/\(∀b∈fp,H' b=none)/\W i n σ' H') ?_ m0 ⟨0,σ,H2,I2,st2,fun b hb=>(f2 b hb).1,w0⟩;rintro n s3 ⟨i,σ3,H3,I3,st3,fr3,w3⟩;rcases turn i n σ3 H3 w3 with⟨stop,qn⟩|⟨go,N,hN,step⟩
 ·refine GA hp<|bG (T.done X rfl rfl rfl hc i pins s3 σ3 H3 X.xe I3 (stat fr3) st3 stop) fun r s4 zz=>?_;obtain⟨hr,I4⟩:=zz;subst hr;exact II ⟨σ3,H3,I4,qn⟩
 ·refine GA hp<|bG (T.item X rfl rfl rfl hc i pins s3 σ3 H3 X.xe I3 (stat fr3) st3 go) fun r s4 zz=>?_;obtain⟨u,hr,h4⟩:=zz;subst hr;refine GA hp<|bG h4 fun _ s5 zz=>?_;obtain⟨x,H5,I5,r5,y5,st5,fr5⟩:=zz;have I5':=I5.pinned (stat fr5)<|T.obj _ _ st5;refine GA hp<|bG (hg _ s5 σ3 H5 x u _ I5' r5<|step x H5 y5) fun _ s6 zz=>?_;obtain⟨σ6,H6,I6,q6⟩:=zz;refine GA hp<|bG (hb _ s6 σ6 H6 _ I6 q6) fun f s7 q7=>?_;have again:∀{σ7:St}{H7:Hp},Inv X (pins++iI fp s5.heap) σ7 H7 s7->N σ7 H7->∃m,m<n/\∃i σ' H',Inv X pins σ' H' s7/\tn i s7.heap/\(∀b∈fp,H' b=none)/\W i m σ' H':=fun{σ7 H7}I7 n7=>by
   obtain⟨m',hm,w7⟩:=hN σ7 H7 n7;refine⟨m',hm,i+1,σ7,H7,I7.unpinned,T.keep _ _ _ st5 fun b hb o e=>(I7.pin (b,o)<|Eo _<|Eo _<|dY hb e).1,fun b hb=>?_,w7⟩;obtain⟨o,e,d⟩:=T.obj _ _ st5 b hb;exact(I7.pin (b,o)<|Eo _<|Eo _<|dY hb e).2.1
  cases f with
  |next=>obtain⟨σ7,H7,I7,n7⟩:=q7;exact again I7 n7
  |cont=>obtain⟨σ7,H7,I7,n7⟩:=q7;exact again I7 n7
  |brk=>obtain⟨σ7,H7,I7,q7⟩:=q7;exact⟨σ7,H7,I7.unpinned,q7⟩
  |ret v=>obtain⟨x7,σ7,H7,I7,r7,q7⟩:=q7;exact⟨x7,σ7,H7,I7.unpinned,r7,q7⟩
end
abbrev R2:=V->V->Hp->VK->Prop
def gX(X:Cx)(f:DM->DM->Sem DM)(r:R2):Prop:=
 ∀(pins:List (Addr×Obj))(s:DN)(σ:St)(H:Hp)(x y:V)(v u:DM)(Q:VK),Inv X pins σ H s->RelV x v->RelV y u->r x y H Q->
  wpAny (model X.prog X.w) X.A (f v u) (EP X pins σ Q) X.xe s
def Cn(X:Cx)(f:DM->Sem DM)(r:V->Hp->VK->Prop):Prop:=
 ∀(pins:List (Addr×Obj))(s:DN)(σ:St)(H:Hp)(x:V)(v:DM)(Q:VK),Inv X pins σ H s->RelV x v->r x H Q->
  wpAny (model X.prog X.w) X.A (f v) (EP X pins σ Q) X.xe s
def dE(X:Cx)(f:DM)(r:List V->Hp->VK->Prop):Prop:=
 ∀(pins:List (Addr×Obj))(s:DN)(σ:St)(H:Hp)(xs:List V)(us:List DM)(Q:VK),Inv X pins σ H s->Vals xs us->r xs H Q->
  wpAny (model X.prog X.w) X.A (call f us) (EP X pins σ Q) X.xe s
def gV(r:R2)(ta tb:TE):TE:=fun σ H Q=>ta σ H fun x H1=>tb σ H1 fun y H2=>r x y H2 Q
def Bu(r:V->Hp->VK->Prop)(ta:TE):TE:=fun σ H Q=>ta σ H fun x H1=>r x H1 Q
def rI(C:Int->Int->Prop)(g:Int->Int->V):R2:=fun x y H Q=>∃i j,x=.int i/\y=.int j/\C i j/\Q (g i j) H
def wa(g:Int->Int->V):R2:=fun x y H Q=>∃i j,x=.int i/\y=.int j/\Q (g i j) H
def rU(g:Int->V):V->Hp->VK->Prop:=fun x H Q=>∃i,x=.int i/\Q (g i) H
section
variable{X:Cx}{a b c:Expr}{ta tb tc:TE}{pos:Pos}
theorem z6(ha:PE X a ta)(hb:PE X b tb){pins:List (Addr×Obj)}{s:DN}{σ:St}{H:Hp}{R:V->V->Hp->Prop}(I:Inv X pins σ H s)
  (h:ta σ H fun x H1=>tb σ H1 fun y H2=>R x y H2) {Q:DM->DN->Prop} {f:DM->DM->Sem DM}
  (hf:∀v u s2 x y H2,Inv X pins σ H2 s2->RelV x v->RelV y u->R x y H2->wpAny (model X.prog X.w) X.A (f v u) Q X.xe s2):
  wpAny (model X.prog X.w) X.A (eval a X.env) (fun v s₁=>wpAny (model X.prog X.w) X.A (eval b X.env) (fun u s₂=>wpAny (model X.prog X.w) X.A (f v u) Q X.xe s₂) X.xe s₁) X.xe s:=by
 refine bG (ha pins s σ H _ I h) fun v s1 zz=>?_;obtain⟨x,H1,I1,r1,q1⟩:=zz;refine bG (hb pins s1 σ H1 _ I1 q1) fun u s2 zz=>?_;obtain⟨y,H2,I2,r2,q2⟩:=zz;exact hf v u s2 x y H2 I2 r1 r2 q2
theorem aj{op:Na}{r:R2}(ho:gX X (binaryOp op) r)(ha:PE X a ta)(hb:PE X b tb):PE X (.BinOp a op b pos) (gV r ta tb):=by
 intro pins s σ H Q I h;exact wpAny_BinOp<|z6 ha hb I h fun v u s2 x y H2 I2 rx ry q=>ho pins s2 σ H2 x y v u Q I2 rx ry q
theorem gG{op:UnaryOp}{r:V->Hp->VK->Prop}(ho:Cn X (unaryOp op) r)(ha:PE X a ta):PE X (.UnaryOp op a pos) (Bu r ta):=by
 intro pins s σ H Q I h;refine UnaryOp_<|bG (ha pins s σ H _ I h) fun v s1 zz=>?_;obtain⟨x,H1,I1,r1,q1⟩:=zz;exact ho pins s1 σ H1 x v Q I1 r1 q1
theorem Bv{f:DM->DM->Sem DM}{C:Int->Int->Prop}{g:Int->Int->Int}
  (rule:∀(i j:Int)(t u:Tok)(s:DN)(Q:DM->DN->Prop)(E:DM->DN->Prop),C i j->Q (.int (g i j) s.toks) {s with toks:=s.toks+1}->wpAny (model X.prog X.w) X.A (f (.int i t)<|.int j u) Q E s):
  gX X f (rI C fun i j=>.int<|g i j):=by
 intro pins s σ H x y v u Q I rx ry h;obtain⟨i,j,rfl,rfl,hc,q⟩:=h;obtain⟨t,rfl⟩:=rx;obtain⟨t',rfl⟩:=ry;exact rule i j t t' s _ _ hc ⟨.int<|g i j,H,I.tok _,⟨_,rfl⟩,q⟩
theorem Aq{f:DM->DM->Sem DM}{g:Int->Int->Int}
  (rule:∀(i j:Int)(t u:Tok)(s:DN)(Q:DM->DN->Prop)(E:DM->DN->Prop),Q (.int (g i j) s.toks) {s with toks:=s.toks+1}->wpAny (model X.prog X.w) X.A (f (.int i t)<|.int j u) Q E s):
  gX X f (wa fun i j=>.int<|g i j):=by
 intro pins s σ H x y v u Q I rx ry h;obtain⟨i,j,rfl,rfl,q⟩:=h;obtain⟨t,rfl⟩:=rx;obtain⟨t',rfl⟩:=ry;exact rule i j t t' s _ _ ⟨.int<|g i j,H,I.tok _,⟨_,rfl⟩,q⟩
theorem wy{f:DM->DM->Sem DM}{g:Int->Int->Bool}
  (rule:∀(i j:Int)(t u:Tok)(s:DN)(Q:DM->DN->Prop)(E:DM->DN->Prop),Q (.bool<|g i j) s->wpAny (model X.prog X.w) X.A (f (.int i t)<|.int j u) Q E s):
  gX X f (wa fun i j=>.bl<|g i j):=by
 intro pins s σ H x y v u Q I rx ry h;obtain⟨i,j,rfl,rfl,q⟩:=h;obtain⟨t,rfl⟩:=rx;obtain⟨t',rfl⟩:=ry;exact rule i j t t' s _ _ ⟨.bl<|g i j,H,I,rfl,q⟩
def Ar(i j:Int):Prop:=0<j/\j<1073741824
def As(i j:Int):Prop:=0<=j/\j<=1000000/\i.natAbs<2^64
def CMul(i j:Int):Prop:=(-(2^64)<i/\i<2^64)\/(-(2^64)<j/\j<2^64)
theorem CMul.ok{i j:Int}(h:CMul i j):IntMulOk i j:=by
 rcases h with⟨h1,h2⟩|⟨h1,h2⟩
 ·exact .of_left<|Mv h1 h2
 ·exact .of_right<|Mv h1 h2
theorem aX:gX X (binaryOp .Add) (wa fun i j=>.int<|i+j):=Aq fun _ _ _ _ _ _ _ q=>add_int q
theorem fA:gX X (binaryOp .Sub) (wa fun i j=>.int<|i-j):=Aq fun _ _ _ _ _ _ _ q=>sub_int q
theorem dZ:gX X (binaryOp .Mult) (rI CMul fun i j=>.int<|i*j):=Bv fun _ _ _ _ _ _ _ hc q=>mul_int q hc.ok
theorem aY:gX X (binaryOp .FloorDiv) (rI Ar fun i j=>.int<|i/j):=Bv fun i j _ _ _ _ _ hc q=>by
 have h1:(0:Int)<j:=hc.1;have h2:j<1073741824:=hc.2;exact floordiv_int (by omega) (by rw[Int.fdiv_eq_ediv_of_nonneg i (by omega)];exact q) (.inl (PyProof.noPylong_small (by omega)))
theorem aJ:gX X (binaryOp .Mod) (rI (fun _ j=>0<j) fun i j=>.int<|i%j):=Bv fun i j _ _ _ _ _ hc q=>by
 have h1:(0:Int)<j:=hc;exact mod_int' (by omega) (by rw[Int.fmod_eq_emod_of_nonneg i (by omega)];exact q)
theorem z7:gX X (binaryOp .Pow) (rI As fun i j=>.int<|i^j.toNat):=Bv fun _ _ _ _ _ _ _ hc q=>pow_int_small hc.1 hc.2.1 hc.2.2 q
theorem CM{f:DM->Sem DM}{g:Int->Int}
  (rule:∀(i:Int)(t:Tok)(s:DN)(Q:DM->DN->Prop)(E:DM->DN->Prop),Q (.int (g i) s.toks) {s with toks:=s.toks+1}->wpAny (model X.prog X.w) X.A (f<|.int i t) Q E s):
  Cn X f (rU fun i=>.int<|g i):=by
 intro pins s σ H x v Q I rx h;obtain⟨i,rfl,q⟩:=h;obtain⟨t,rfl⟩:=rx;exact rule i t s _ _ ⟨.int<|g i,H,I.tok _,⟨_,rfl⟩,q⟩
theorem f6:Cn X (unaryOp .USub) (rU fun i=>.int<|-i):=CM fun _ _ _ _ _ q=>neg_int q
end
def Au:V->V->Bool
 | .non,.non=>true| .non,.int _=>true| .int _,.non=>true| .non,.bl _=>true| .bl _,.non=>true| .non,.str _=>true| .str _,.non=>true
 | .int _,.int _=>true| .bl _,.bl _=>true| .str _,.str _=>true| .byt _,.byt _=>true
 | .int _,.str _=>true| .str _,.int _=>true| .bl _,.str _=>true| .str _,.bl _=>true
 |_,_=>false
def Co:R2:=fun x y H Q=>Au x y=true/\Q (.bl<|decide<|x=y) H
def Cp:R2:=fun x y H Q=>Au x y=true/\Q (.bl<|!decide (x=y)) H
theorem pM{i j:Int}:decide (V.int i=V.int j)=(i==j):=by
 rw[FA];simp
theorem tE{i j:Bool}:decide (V.bl i=V.bl j)=(i==j):=by
 rw[FA];simp
theorem pN{i j:Str}:decide (V.str i=V.str j)=(i==j):=by
 rw[FA];simp
theorem pO{i j:Array UInt8}:decide (V.byt i=V.byt j)=(i.toList==j.toList):=by
 rw[FA];cases i;cases j;simp
section
variable{X:Cx}{a b c:Expr}{ta tb tc:TE}{pos:Pos}
theorem bg{pins:List (Addr×Obj)}{σ:St}{H:Hp}{s:DN}{Q:VK}{k k':Bool}(I:Inv X pins σ H s)(q:Q (.bl k) H)(e:k=k'):EP X pins σ Q (.bool k') s:=by
 subst e;exact⟨.bl k,H,I,rfl,q⟩
theorem cb:gX X (compareOp .Eq) Co:=by
 intro pins s σ H x y v u Q I rx ry h;obtain⟨hs,q⟩:=h;cases x with
 |non=>
  cases rx;cases y with
  |non=>cases ry;exact Mh (bg I q (by simp))
  |bl j=>cases ry;exact Mj (bg I q (by simp))
  |int j=>obtain⟨t',rfl⟩:=ry;exact Mw (bg I q (by simp))
  |str j=>obtain⟨t',rfl⟩:=ry;exact Mx (bg I q (by simp))
  |_=>exact absurd (show false=true from hs) E3
 |bl i=>
  cases rx;cases y with
  |non=>cases ry;exact Mk (bg I q (by simp))
  |bl j=>cases ry;exact eq_bool<|bg I q tE
  |str j=>obtain⟨t',rfl⟩:=ry;exact Ml (bg I q (by simp))
  |_=>exact absurd (show false=true from hs) E3
 |int i=>
  obtain⟨t,rfl⟩:=rx;cases y with
  |non=>cases ry;exact My (bg I q (by simp))
  |int j=>obtain⟨t',rfl⟩:=ry;exact eq_int<|bg I q pM
  |str j=>obtain⟨t',rfl⟩:=ry;exact Mz (bg I q (by simp))
  |_=>exact absurd (show false=true from hs) E3
 |str i=>
  obtain⟨t,rfl⟩:=rx;cases y with
  |non=>cases ry;exact MA (bg I q (by simp))
  |bl j=>cases ry;exact Mm (bg I q (by simp))
  |int j=>obtain⟨t',rfl⟩:=ry;exact MB (bg I q (by simp))
  |str j=>obtain⟨t',rfl⟩:=ry;exact eq_str<|bg I q pN
  |_=>exact absurd (show false=true from hs) E3
 |byt i=>
  obtain⟨t,rfl⟩:=rx;cases y with
  |byt j=>obtain⟨t',rfl⟩:=ry;exact PySem.W.eq_bytes<|bg I q pO
  |_=>exact absurd (show false=true from hs) E3
 |_=>cases y<;>exact absurd (show false=true from hs) E3
theorem fQ:gX X (compareOp .NotEq) Cp:=by
 intro pins s σ H x y v u Q I rx ry h;obtain⟨hs,q⟩:=h;cases x with
 |non=>
  cases rx;cases y with
  |non=>cases ry;exact Mn (bg I q (by simp))
  |bl j=>cases ry;exact Mo (bg I q (by simp))
  |int j=>obtain⟨t',rfl⟩:=ry;exact MC (bg I q (by simp))
  |str j=>obtain⟨t',rfl⟩:=ry;exact MD (bg I q (by simp))
  |_=>exact absurd (show false=true from hs) E3
 |bl i=>
  cases rx;cases y with
  |non=>cases ry;exact Mp (bg I q (by simp))
  |bl j=>cases ry;exact ne_bool<|bg I q<|congrArg not tE
  |str j=>obtain⟨t',rfl⟩:=ry;exact Mq (bg I q (by simp))
  |_=>exact absurd (show false=true from hs) E3
 |int i=>
  obtain⟨t,rfl⟩:=rx;cases y with
  |non=>cases ry;exact ME (bg I q (by simp))
  |int j=>obtain⟨t',rfl⟩:=ry;exact ne_int<|bg I q<|congrArg not pM
  |str j=>obtain⟨t',rfl⟩:=ry;exact MF (bg I q (by simp))
  |_=>exact absurd (show false=true from hs) E3
 |str i=>
  obtain⟨t,rfl⟩:=rx;cases y with
  |non=>cases ry;exact MG (bg I q (by simp))
  |bl j=>cases ry;exact Mr (bg I q (by simp))
  |int j=>obtain⟨t',rfl⟩:=ry;exact MH (bg I q (by simp))
  |str j=>obtain⟨t',rfl⟩:=ry;exact ne_str<|bg I q<|congrArg not pN
  |_=>exact absurd (show false=true from hs) E3
 |byt i=>
  obtain⟨t,rfl⟩:=rx;cases y with
  |byt j=>obtain⟨t',rfl⟩:=ry;exact PySem.W.ne_bytes<|bg I q<|congrArg not pO
  |_=>exact absurd (show false=true from hs) E3
 |_=>cases y<;>exact absurd (show false=true from hs) E3
theorem jv:gX X (compareOp .Lt) (wa fun i j=>.bl<|decide<|i<j):=wy fun _ _ _ _ _ _ _ q=>lt_int q
theorem pP:gX X (compareOp .LtE) (wa fun i j=>.bl<|decide<|i<=j):=wy fun _ _ _ _ _ _ _ q=>le_int q
theorem jw:gX X (compareOp .Gt) (wa fun i j=>.bl<|decide<|j<i):=wy fun _ _ _ _ _ _ _ q=>gt_int q
theorem mP:gX X (compareOp .GtE) (wa fun i j=>.bl<|decide<|j<=i):=wy fun _ _ _ _ _ _ _ q=>ge_int q
theorem oA:gX X (compareOp .Is) (fun x y H Q=>y=.non/\Q (.bl<|decide<|x=.non) H):=by
 intro pins s σ H x y v u Q I rx ry h;obtain⟨rfl,q⟩:=h;cases ry;refine is_none_gen<|bg I q ?_
 cases x<;>first
  |(cases rx;rfl)
  |(obtain⟨t,rfl⟩:=rx;rfl)
theorem ay(b:Expr){op:CmpOp}(h:op≠.In:=by decide)(h2:op≠.NotIn:=by decide):behindInMarks op b=false:=by
 have e1:(op==CmpOp.In)=false:=by cases op<;>first|rfl|exact absurd rfl h
 have e2:(op==CmpOp.NotIn)=false:=by cases op<;>first|rfl|exact absurd rfl h2
 cases b<;>simp[behindInMarks,e1,e2]
theorem cF{op:CmpOp}{r:R2}(ho:gX X (compareOp op) r)(ha:PE X a ta)(hb:PE X b tb)(hm:behindInMarks op b=false):PE X (.Compare a [op] [b] pos) (gV r ta tb):=by
 intro pins s σ H Q I h;exact wpAny_Compare1 (z6 ha hb I h fun v u s2 x y H2 I2 rx ry q=>ho pins s2 σ H2 x y v u Q I2 rx ry q) hm
def yq(t:TE):TT:=fun σ H Q=>t σ H fun x H'=>∃k,x=.bl k/\Q k H'
theorem aq{op:CmpOp}{r:R2}(ho:gX X (compareOp op) r)(ha:PE X a ta)(hb:PE X b tb)(hm:behindInMarks op b=false):PT X (.Compare a [op] [b] pos) (yq<|gV r ta tb):=by
 intro pins s σ H Q I h;refine wpAny_isTrue_Compare1 (bG (ha pins s σ H _ I h) fun v s1⟨x,H1,I1,r1,q1⟩=>bG (hb pins s1 σ H1 _ I1 q1) fun u s2⟨y,H2,I2,r2,q2⟩=>
  bG (ho pins s2 σ H2 x y v u _ I2 r1 r2 q2) fun c s3⟨z,H3,I3,r3,k,e,q3⟩=>?_) hm
 subst e;cases r3;exact Hm ⟨H3,I3,q3⟩
theorem jx:(sizeLine:Nat)<2^63:=by rw[F3];decide
theorem df:gX X (binaryOp .Add) (fun x y H Q=>∃i j,x=.str i/\y=.str j/\i.length+j.length<=sizeLine/\Q (.str<|i++j) H):=by
 intro pins s σ H x y v u Q I rx ry h;obtain⟨i,j,rfl,rfl,hz,q⟩:=h;obtain⟨t,rfl⟩:=rx;obtain⟨t',rfl⟩:=ry;exact add_str (fun t' tk=>⟨.str<|i++j,H,I.tok _,⟨_,rfl⟩,q⟩) hz
theorem mQ:gX X (inplaceOp .Add) (fun x y H Q=>∃i j,x=.str i/\y=.str j/\i.length+j.length<=sizeLine/\Q (.str<|i++j) H):=by
 intro pins s σ H x y v u Q I rx ry h;obtain⟨i,j,rfl,rfl,hz,q⟩:=h;obtain⟨t,rfl⟩:=rx;obtain⟨t',rfl⟩:=ry;exact iadd_str (fun t' tk=>⟨.str<|i++j,H,I.tok _,⟨_,rfl⟩,q⟩) hz
theorem fh{x:V}{us:List DM}(r:Vals [x] us):∃u,us=[u]/\RelV x u:=by
 cases r with
 |cons r1 r2=>cases r2;exact⟨_,rfl,r1⟩
theorem pQ{x y:V}{us:List DM}(r:Vals [x,y] us):∃u w',us=[u,w']/\RelV x u/\RelV y w':=by
 cases r with
 |cons r1 r2=>
  cases r2 with
  |cons r3 r4=>cases r4;exact⟨_,_,rfl,r1,r3⟩
theorem gY:dE X (.builtin "abs") (fun xs H Q=>∃i,xs=[.int i]/\Q (.int (if i<0 then -i else i)) H):=by
 intro pins s σ H xs us Q I r h;obtain⟨i,rfl,q⟩:=h;obtain⟨u,rfl,t,rfl⟩:=fh r;exact call_abs_int fun u tk=>⟨.int (if i<0 then -i else i),H,I.tok _,⟨_,rfl⟩,q⟩
theorem iJ:dE X (.type "int") (fun xs H Q=>(∃i,xs=[.int i]/\Q (.int i) H)\/∃k,xs=[.bl k]/\Q (.int (if k then 1 else 0)) H):=by
 intro pins s σ H xs us Q I r h;rcases h with⟨i,rfl,q⟩|⟨k,rfl,q⟩
 ·obtain⟨u,rfl,t,rfl⟩:=fh r;exact call_int_int ⟨.int i,H,I,⟨_,rfl⟩,q⟩
 ·obtain⟨u,rfl,r1⟩:=fh r;cases r1;exact call_int_bool ⟨.int (if k then 1 else 0),H,I.tok _,⟨_,rfl⟩,q⟩
def oB(K:DJ)(x:V)(H:Hp)(n:Nat):Prop:=
 match x with
 | .str y=>y.length<=sizeLine/\n=y.length
 | .byt y=>y.size<=sizeLine/\n=y.size
 | .ref p=>(∃xs,SqL K H p xs/\n=xs.length)\/∃xs,SqT K H p xs/\n=xs.length
 |_=>False
theorem tF:dE X (.builtin "len") (fun xs H Q=>∃x n,xs=[x]/\oB X.K x H n/\Q (.int n) H):=by
 intro pins s σ H xs us Q I r h;obtain⟨x,n,rfl,e,q⟩:=h;obtain⟨u,rfl,rx⟩:=fh r;have hl:=jx;have hs:sizeLine=16777216:=F3;cases x with
 |str y=>
  obtain⟨t,rfl⟩:=rx;obtain⟨hy,e'⟩:y.length<=sizeLine/\n=y.length:=e;subst e';exact len_str (by omega) ⟨.int _,H,I.tok _,⟨_,rfl⟩,q⟩
 |byt y=>
  obtain⟨t,rfl⟩:=rx;obtain⟨hy,e'⟩:y.size<=sizeLine/\n=y.size:=e;subst e';exact PySem.W.len_bytes (by omega) ⟨.int _,H,I.tok _,⟨_,rfl⟩,q⟩
 |ref p=>
  cases rx;have e':(∃xs,SqL X.K H p xs/\n=xs.length)\/∃xs,SqT X.K H p xs/\n=xs.length:=e;rcases e' with⟨xs,hx,e'⟩|⟨xs,hx,e'⟩
  ·subst e';obtain⟨its,r',pl,hz⟩:=I.list hx;have hlen:=r'.length;exact Calls.call_len_list pl.isList (by simp only[DY];omega) ⟨.int xs.length,H,I.tok _,⟨_,by simp only[DY];rw[hlen]⟩,q⟩
  ·subst e';obtain⟨its,r',pl,hz⟩:=I.tuple hx;have hlen:=r'.length;exact len_tuple pl (by simp only[DY];omega) ⟨.int xs.length,H,I.tok _,⟨_,by simp only[DY];rw[hlen]⟩,q⟩
 |_=>exact(show False from e).elim
end
structure ObjM(h:Heap)(x dx C:Addr)(mA:Str->Option DM):Prop where
 obj:h.get? x=some (K3 C dx)
 ns:h.Ns1 dx mA
 ne:dx≠x
theorem r0{h:Heap}{dx:Addr}{mA:Str->Option DM}(n:h.Ns1 dx mA):∃od,h.get? dx=some od/\∀name,Kr name od=some (mA name):=by
 obtain⟨o,es,ep,ho,hd,hk,_,hm⟩:=n;refine⟨o,ho,fun name=>?_⟩;have e:=hm name;unfold nsFind findBy at e;rw[<-Array.find?_toList]at e;unfold Kr;rw[hd];dsimp only;split
 ·rename_i y q;rw[q]at e;exact congrArg some e
 ·rename_i q;rw[q]at e;have a:es.toList.any (·.refKey)=false:=by
   rw[List.any_eq_false];intro y hy;obtain⟨z,t,hkey⟩:=hk y<|Array.mem_toList_iff.mp hy;simp[DictEntry.refKey,hkey]
  have a':¬es.toList.any (·.refKey)=true:=by rw[a];exact E3
  rw[if_neg a'];exact congrArg some e
theorem ObjM.look{h:Heap}{x dx C:Addr}{mA:Str->Option DM}(I:ObjM h x dx C mA):∃od,PySem.W.InstAt h x (K3 C dx) C (some od)/\∀name,Kr name od=some (mA name):=
 let ⟨od,ho,hl⟩:=r0 I.ns
 ⟨od,⟨I.obj,rfl,rfl,ho⟩,hl⟩
theorem RelO.some_of{v:V}{o:Option DM}(r:RelO (some v) o):∃u,o=some u/\RelV v u:=by
 cases o with
 |none=>exact(show False from r).elim
 |some u=>exact⟨u,rfl,r⟩
section
variable{P:E4}{w:E8}{H H':Hp}{h h':Heap}{a C dx:Addr}{fs fs':List (Str×V)}
theorem wz(hok:HOk P w H h)(e:H a=some (.ins C dx fs)):∃mA,ObjM h a dx C mA/\(∀f,RelO (fs.lookup f)<|mA f)/\MU mA (fs.map (·.1))/\fs.length<=1000/\H dx=some (.own a):=by
 obtain⟨d,z,ne,ob,mA,n,r,q⟩:=(show ObjOk P w H h a (.ins C dx fs)from hok a _ e)
 exact⟨mA,⟨ob,n,ne⟩,r,q,z,d⟩
end
structure Cls(K:DJ)(C:Addr):Prop where
 pg:Lw K C Str.empty=true
 hd:PySem.W.hasDictIn K C=true
 po:PySem.W.plainOver K C=true
 sa:M3 K (.ref C) "__setattr__"=some (some<|.builtin "object.__setattr__")
theorem Cls.get{K:DJ}{C:Addr}(c:Cls K C)(f:Str):Lw K C f=true:=c.pg
section
variable{X:Cx}{pins:List (Addr×Obj)}{σ:St}{H:Hp}{s:DN}{A:EB}{E:DM->DN->Prop}{Q:DM->DN->Prop}{c:DM}{b:Bool}
inductive TyOf(K:DJ)(H:Hp):V->DM->Prop where
 |non:TyOf K H .non (.type "NoneType")
 |bl (x:Bool):TyOf K H (.bl x) (.type "bool")
 |int (i:Int):TyOf K H (.int i) (.type "int")
 |str (x:Str):TyOf K H (.str x) (.type "str")
 |flt (x:UInt64):TyOf K H (.flt x) (.type "float")
 |lst {a:Addr} {xs:List V} (e:H a=some (.lst xs)):TyOf K H (.ref a) (.type "list")
 |frz {a:Addr} {o:Obj} {xs:List V} (e:H a=some (.frz o<|.lst xs)):TyOf K H (.ref a) (.type "list")
 |tup {a:Addr} {xs:List V} (e:SqT K H a xs):TyOf K H (.ref a) (.type "tuple")
 |dK {a:Addr} {kvs:List (Key×V)} (e:H a=some (.dK kvs)):TyOf K H (.ref a) (.type "dict")
 |dT {a:Addr} {kvs:List (List Key×V)} (e:H a=some (.dT kvs)):TyOf K H (.ref a) (.type "dict")
 | ins {a C dx:Addr} {fs:List (Str×V)} (e:H a=some (.ins C dx fs)) (cl:Cls K C) (ha:M3 K (.ref C) "__class__" =some (some<|.builtin "object.__class__"))
   (hn:PySem.W.specialIn K (.builtin "object.__class__") "__get__"=some (some<|.builtin "getset_descriptor.__get__")) (htk:PySem.W.takesIn K (.builtin "object.__class__")=some true)
   (hm:PySem.W.mroIn K C (.type "object")=some true):TyOf K H (.ref a) (.ref C)
theorem r6{x:V}{u t:DM}(I:Inv X pins σ H s)(rx:RelV x u)(ty:TyOf X.K H x t)(e:Hu X.K t c=some b)(h:∀tk,Q (.bool b) {s with toks:=tk}):
  wpAny (model X.prog X.w) A (call (.builtin "isinstance") [u,c]) Q E s:=by
 cases ty with
 |non=>cases (show u=Fc from rx);exact FC PySem.W.kitx_none I.kIn Hd e (fun z=>nomatch z) h
 |bl y=>cases (show u=M0 y from rx);exact FC PySem.W.kitx_bool I.kIn Hd e (fun z=>nomatch z) h
 |int i=>obtain⟨t,q⟩:=(show ∃t,u=HD i t from rx);cases q;exact FC PySem.W.kitx_int I.kIn Hd e (fun z=>nomatch z) h
 |str y=>obtain⟨t,q⟩:=(show ∃t,u=Lu y t from rx);cases q;exact FC PySem.W.kitx_str I.kIn Hd e (fun z=>nomatch z) h
 |flt y=>obtain⟨t,q⟩:=(show ∃t,u=N9 y t from rx);cases q;exact FC PySem.W.kitx_float I.kIn Hd e (fun z=>nomatch z) h
 | @lst a xs ea=>
  cases (show u=F1 a from rx);obtain⟨_,_,n,_,h1⟩:=(show ObjOk X.prog X.w H s.heap a (.lst xs)from I.hok a _ ea)
  exact FC Lb I.kIn ⟨_,h1,rfl⟩ e (fun z=>nomatch z) h
 | @frz a ob xs ea=>
  cases (show u=F1 a from rx);obtain⟨_,_,_,n,_,h1⟩:=(show ObjOk X.prog X.w H s.heap a (.frz ob<|.lst xs)from I.hok a _ ea)
  exact FC Lb I.kIn ⟨_,h1,rfl⟩ e (fun z=>nomatch z) h
 | @tup a xs ea=>
  cases (show u=F1 a from rx);obtain⟨_,_,p,_⟩:=I.tuple ea;obtain⟨o,h1,h2,_⟩:=p;exact FC PySem.W.kitx_tuple I.kIn ⟨o,h1,h2⟩ e (fun z=>nomatch z) h
 | @dK a kvs ea=>
  cases (show u=F1 a from rx);obtain⟨_,_,vs,_,p⟩:=(show ObjOk X.prog X.w H s.heap a (.dK kvs)from I.hok a _ ea)
  obtain⟨o,es,ep,h1,h2,_⟩:=p;exact FC Lc I.kIn ⟨o,h1,h2.1⟩ e (fun z=>nomatch z) h
 | @dT a kvs ea=>
  cases (show u=F1 a from rx);obtain⟨_,_,xs,_,o,es,ep,h1,h2,_⟩:=(show ObjOk X.prog X.w H s.heap a (.dT kvs)from I.hok a _ ea)
  exact FC Lc I.kIn ⟨o,h1,h2.1⟩ e (fun z=>nomatch z) h
 | @ins a C dx fs ea cl ha hn htk hm=>
  cases (show u=F1 a from rx);obtain⟨mA,O,_⟩:=wz I.hok ea;obtain⟨od,J,_⟩:=O.look;exact FC (PySem.W.kitx_own (cl.get _) cl.hd ha hn htk hm) I.kIn J e (fun z=>nomatch z) h
end
structure Room(k:Nat)(A:EB):Prop where
 hd:A.handled=none
 dp:A.depth+3*k+5<recursionLimit
 un:A.units+16*k+200<cLine
theorem Room.mono{j k:Nat}{A:EB}(r:Room k A)(h:j<=k):Room j A:=⟨r.hd,by have:=r.dp;omega,by have:=r.un;omega⟩
theorem Room.deeper{k:Nat}{A:EB}(r:Room (k+1) A)(env:Env):Room k (A.deeper env):=
 ⟨r.hd,by have:=r.dp;show A.depth+1+3*k+5<_;omega,by have:=r.un;show A.units+3+16*k+200<_;omega⟩
theorem Room.depth{k:Nat}{A:EB}(r:Room k A):A.depth<recursionLimit:=by have:=r.dp;omega
theorem Room.units0{k:Nat}{A:EB}(r:Room k A):A.units<cLine:=by have:=r.un;omega
def bV:TA:=fun _ H Q=>Q [] H
def aL(ta:TE)(tr:TA):TA:=fun σ H Q=>ta σ H fun x H1=>tr σ H1 fun xs H2=>Q (x::xs) H2
section
variable{X:Cx}{e:Expr}{es:List Expr}{te:TE}{t:TA}{pos:Pos}
theorem af:PA X [] bV:=fun _ _ _ _ H Q I h=>Ld ⟨[],H,I,.nil,h⟩
theorem a5(ha:PE X e te)(hr:PA X es t)(hs:starEach (e::es) X.env=(false,eval e X.env)::starEach es X.env:=by rfl):PA X (e::es) (aL te t):=by
 intro pos pins s σ H Q I h;rw[hs];show wpAny _ _ (spliced ((false,eval e X.env)::backTo pos (starEach es X.env))) _ _ s;refine KW<|bG (ha pins s σ H _ I h) fun u s1 zz=>?_;obtain⟨x,H1,I1,r1,q1⟩:=zz;refine bG (hr pos pins s1 σ H1 _ I1 q1) fun us s2 zz=>?_;obtain⟨xs,H2,I2,r2,q2⟩:=zz;exact⟨x::xs,H2,I2,.cons r1 r2,q2⟩
def z8(t:TA):TE:=fun σ H Q=>t σ H fun xs H1=>xs.length<=sizeLine/\∀p,H1 p=none->Q (.ref p) (cn H1 p<|.tup xs)
def tG(t:TA):TE:=fun σ H Q=>t σ H fun xs H1=>xs.length<=sizeLine/\∀p,H1 p=none->Q (.ref p) (cn H1 p<|.lst xs)
theorem bJ{x1}(h:PA X es t):PE X (.Tuple es x1 pos) (z8 t):=by
 intro pins s σ H Q I hq;refine wpAny_Tuple_spliced (bG (h pos pins s σ H _ I hq) fun us s1⟨xs,H1,I1,r,z,q⟩=>⟨by rw[<-r.length];exact z,?_⟩);have hf:H1 s1.heap.objs.size=none:=I1.hok.fresh<|DQ _;refine⟨.ref s1.heap.objs.size,cn H1 s1.heap.objs.size<|.tup xs,I1.laid (t':=s1.toks) (fun b u e=>DH _ e) (DQ _) ?_,rfl,q _ hf⟩;exact⟨z,us,r,⟨_,DS _ rfl,⟨rfl,rfl⟩,_,rfl⟩⟩
theorem bK(h:PA X es t):PE X (.List es pos) (tG t):=by
 intro pins s σ H Q I hq;refine wpAny_List_spliced (bG (h pos pins s σ H _ I hq) fun us s1⟨xs,H1,I1,r,z,q⟩=>⟨by rw[<-r.length];exact z,?_⟩);have hf:H1 s1.heap.objs.size=none:=I1.hok.fresh<|DQ _;refine⟨.ref s1.heap.objs.size,cn H1 s1.heap.objs.size<|.lst xs,I1.laid (t':=s1.toks) (fun b u e=>DH _ e) (DQ _) ?_,rfl,q _ hf⟩;exact⟨z,us,0,r,DS _ rfl⟩
end
abbrev Sp:=List V->Hp->VK->XK->Prop
abbrev CXT:=List Env->Hp->DN->XK->DM->DN->Prop
structure Env0(P:E4)(w:E8)(K:DJ)(mg:Str->Option DM)(base:Heap)(A:EB)(outer:List Env)(s:DN)(H:Hp):Prop where
 frames:A.frames=some outer
 mod:Mod K mg base
 bs:∀b o,base.get? b=some o->s.heap.get? b=some o/\H b=none
 bsz:base.objs.size<=s.heap.objs.size
 funs:s.heap.FunFrames base outer
 frf:∀b∈frs outer,H b=none
 hok:HOk P w H s.heap
 bare:Jn s.gens
def CE(outer:List Env)(P:E4)(w:E8)(H:Hp)(s:DN)(Q:VK)(u:DM)(s':DN):Prop:=
 ∃v H',s'.os=s.os/\Jn s'.gens/\Un (frs outer) [] H H' s.heap s'.heap/\HOk P w H' s'.heap/\RelV v u/\Q v H'
def CR(CX:CXT)(outer:List Env)(P:E4)(w:E8)(H:Hp)(s:DN)(Q:VK)(E:XK)(r:M4)(s':DN):Prop:=
 match r with
 | .ok (.ret u)=>CE outer P w H s Q u s'
 | .ok _=>False
 | .error e=>CX outer H s E e s'
structure FnOk(P:E4)(w:E8)(K:DJ)(mg:Str->Option DM)(base:Heap)(CX:CXT)(k:Nat)(f:Addr)(fd:Ee)(ps:List Str)(sp:Sp):Prop where
 len:∀vs H Q E,sp vs H Q E->vs.length=ps.length
 run:∀(A:EB)(outer:List Env)(s:DN)(H:Hp)(args:Args)(us:List DM)(vs:List V)(Q:VK)(E:XK),Room k A->Env0 P w K mg base A outer s H->Le s fd args (ps.zip us)->Vals vs us->sp vs H Q E->
  codeAny (model P w) A (.call (.ref f) args) (CR CX outer P w H s Q E) s
theorem FnOk.imp{P:E4}{w:E8}{K:DJ}{mg:Str->Option DM}{base:Heap}{CX:CXT}{k:Nat}{f:Addr}{fd:Ee}{ps:List Str}{sp sp':Sp}(F:FnOk P w K mg base CX k f fd ps sp)
  (h:∀vs H Q E,sp' vs H Q E->sp vs H Q E):FnOk P w K mg base CX k f fd ps sp':=
 ⟨fun vs H Q E q=>F.len vs H Q E<|h _ _ _ _ q,fun A outer s H args us vs Q E hr he hb hv hs=>F.run A outer s H args us vs Q E hr he hb hv<|h _ _ _ _ hs⟩
section
variable{X:Cx}{pins:List (Addr×Obj)}{σ:St}{H:Hp}{s s':DN}
theorem Inv.env0(I:Inv X pins σ H s):Env0 X.prog X.w X.K X.mg X.base X.A X.stack s H:=
 ⟨I.ok.frames,I.ok.mod,I.bs,FO I.ok.bsz I.sz,I.stack,I.stkFree,I.hok,I.bare⟩
theorem Inv.after{Q:VK}{u:DM}(I:Inv X pins σ H s)(h:CE X.stack X.prog X.w H s Q u s'):EP X pins σ Q u s':=by
 obtain⟨v,H',os,bare,un,hok,r,q⟩:=h;obtain⟨hh,g,d,t,os'⟩:=s';obtain rfl:os'=s.os:=os;exact⟨v,H',I.call (h':=hh) (g':=g) (d':=d) (t':=t) (ch:=[]) un hok bare (fun b z=>absurd z (by simp)),r,q⟩
end
def fJ(sp:Sp)(dvs:List V)(E:XK)(t:TA):TE:=fun σ H Q=>t σ H fun vs H1=>sp (vs++dvs) H1 Q E
def Binds(K:DJ)(fd:Ee)(ps:List Str)(ds:List DM):Prop:=
 ∀(s:DN)(us:List DM),K.In s.heap->(us++ds).length=ps.length->Le s fd ⟨us,[]⟩ (ps.zip<|us++ds)
theorem Binds.all{K:DJ}{fd:Ee}{ps:List Str}(h:∀us:List DM,us.length=ps.length->bindArgs fd ⟨us,[]⟩=pure (ps.zip us)):Binds K fd ps []:=fun s us _ hl=>by
 rw[Gi]at hl ⊢;exact .of_eq<|h us hl
def oC(CX:CXT)(X:Cx)(E:XK):Prop:=∀(pins:List (Addr×Obj))(σ:St)(H:Hp)(s:DN)(e:DM)(s':DN),Inv X pins σ H s->CX X.stack H s E e s'->X.xe e s'
section
variable{X:Cx}{CX:CXT}{k:Nat}{f C:Addr}{fd:Ee}{ps:List Str}{sp:Sp}{dvs:List V}{ds:List DM}{E:XK}{x m:Str}{p pos apos:Pos}{e o:Expr}{es:List Expr}{ta:TE}{t:TA}
theorem z9{pins:List (Addr×Obj)}{σ:St}{H:Hp}{s:DN}{Q:VK}{us:List DM}{vs:List V}(F:FnOk X.prog X.w X.K X.mg X.base CX k f fd ps sp)(hr:Room k X.A)(hb:Binds X.K fd ps ds)(hd:Vals dvs ds)(hx:oC CX X E)
  (I:Inv X pins σ H s) (r:Vals vs us) (h:sp (vs++dvs) H Q E):wpAny (model X.prog X.w) X.A (call (.ref f) us) (EP X pins σ Q) X.xe s:=by
 have r2:Vals (vs++dvs) (us++ds):=r.append hd;have hl:(us++ds).length=ps.length:=by rw[<-r2.length];exact F.len _ _ _ _ h
 refine wpAny_call<|IX (F.run X.A X.stack s H ⟨us,[]⟩ (us++ds) (vs++dvs) Q E hr I.env0 (hb s us I.kIn hl) r2 h) fun r s' hq=>?_;cases r with
 |error e=>exact hx pins σ H s e s' I hq
 |ok fl=>
  cases fl with
  |ret u=>exact I.after hq
  |next=>exact Ha hq
  |brk=>exact Ha hq
  |cont=>exact Ha hq
theorem wA(F:FnOk X.prog X.w X.K X.mg X.base CX k f fd ps sp)(hr:Room k X.A)(hg:Gl X x)(hm:X.mg x=some (.ref f))(hk:Hv X.K (.ref f)=true)(hb:Binds X.K fd ps ds)(hd:Vals dvs ds)(hx:oC CX X E)
  (ha:PA X (e::es) t) (hdb:(x==("__debug__" :Str))=false:=by decide) (he:starEach (e::es) X.env=(false,eval e X.env)::starEach es X.env:=by rfl) (hpl:(backTo pos<|starEach es X.env).any (·.1)=false:=by rfl):
  PE X (.Call (.Name x p) (e::es) [] pos) (fJ sp dvs E t):=by
 intro pins s σ H Q I h;refine J4<|pL I hg hm ?_ hdb;refine PySem.W.callWith_K (h₀:=X.base) I.ok.mod.kin hk (bG (ha pos pins s σ H _ I h) fun us s1⟨vs,H1,I1,r,q⟩=>⟨I1.kIn,?_⟩) he hpl;exact z9 F hr hb hd hx I1 r q
end
structure FnScope(N P:List Str)(sc:Hi):Prop where
 kind:sc.kind=.function
 co:sc.isCoroutine=false
 gen:sc.isGenerator=false
 nd:N.Nodup
 pre:N.take P.length=P
 par:∀x∈P,sc.names.lookup x=some .local\/sc.names.lookup x=some .cell
 nofree:∀y∈sc.names,y.2≠.free
theorem kT{kindOf:Str->Option GL}{x:Str}:∀{binds:List (Str×DM)}{m:Str->Option DM},(∀v,(x,v)∉binds)->bindL kindOf binds m x=m x
 | [],_,_=>rfl
 |(n,v)::r,m,h=>by
  unfold bindL;rw[kT fun w hw=>h w<|E9 _ hw];split
  ·have:x≠n:=by rintro rfl;exact h v E5
   simp[this]
  ·rfl
theorem kU{kindOf:Str->Option GL}{x:Str}:∀{binds:List (Str×DM)}{m:Str->Option DM},(∀v,(x,v)∉binds)->bindC kindOf binds m x=m x
 | [],_,_=>rfl
 |(n,v)::r,m,h=>by
  unfold bindC;rw[kU fun w hw=>h w<|E9 _ hw];split;·rfl
  ·have:x≠n:=by rintro rfl;exact h v E5
   simp[this]
theorem kW{kindOf:Str->Option GL}{x:Str}{v:DM}:∀{P:List Str}{vs:List DM}{i:Nat}{m:Str->Option DM},P.Nodup->P[i]? =some x->vs[i]? =some v->kindOf x=some .local->
  bindL kindOf (P.zip vs) m x=some v
 | [],_,_,_,_,h,_,_=>by simp at h
 |_::_,[],_,_,_,_,h,_=>by simp at h
 |p::P,w::vs,0,m,nd,h1,h2,hk=>by
  simp at h1 h2;subst h1;subst h2;show bindL kindOf ((p,w)::P.zip vs) m p=_;unfold bindL;rw[kT fun v hv=>(G1.mp nd).1 (GB hv).1,if_pos hk];simp
 |p::P,w::vs,i+1,m,nd,h1,h2,hk=>by
  show bindL kindOf ((p,w)::P.zip vs) m x=_;unfold bindL;exact kW (i:=i) (G1.mp nd).2 (by simpa using h1) (by simpa using h2) hk
theorem kX{kindOf:Str->Option GL}{x:Str}{v:DM}:∀{P:List Str}{vs:List DM}{i:Nat}{m:Str->Option DM},P.Nodup->P[i]? =some x->vs[i]? =some v->kindOf x≠some .local->
  bindC kindOf (P.zip vs) m x=some v
 | [],_,_,_,_,h,_,_=>by simp at h
 |_::_,[],_,_,_,_,h,_=>by simp at h
 |p::P,w::vs,0,m,nd,h1,h2,hk=>by
  simp at h1 h2;subst h1;subst h2;show bindC kindOf ((p,w)::P.zip vs) m p=_;unfold bindC;rw[kU fun v hv=>(G1.mp nd).1 (GB hv).1,if_neg hk];simp
 |p::P,w::vs,i+1,m,nd,h1,h2,hk=>by
  show bindC kindOf ((p,w)::P.zip vs) m x=_;unfold bindC;exact kX (i:=i) (G1.mp nd).2 (by simpa using h1) (by simpa using h2) hk
def start(N:List Str)(vs:List V):St:=vs.map some++Hw (N.length-vs.length) none
def r9(CX:CXT)(P:E4)(w:E8)(K:DJ)(mg:Str->Option DM)(base:Heap)(N:List Str)(qual:Str)(scope:Hi)(f:Addr)(cd:DM)(A:EB)(outer:List Env)(s:DN)(H:Hp)(E:XK):Cx where
 prog:=P
 w:=w
 K:=K
 mg:=mg
 base:=base
 A:=A.deeper<|envOfC qual scope s.heap.objs.size f cd
 N:=N
 s₀:=s
 H₀:=H
 env:=envOfC qual scope s.heap.objs.size f cd
 outer:=outer
 stack:=envOfC qual scope s.heap.objs.size f cd::outer
 ex:=[]
 calm:=true
 fn:=fun _=>true
 pn:=[]
 xe:=fun e s'=>wpAny (model P w) (A.deeper<|envOfC qual scope s.heap.objs.size f cd) (leaving (envOfC qual scope s.heap.objs.size f cd) e) (fun _ s''=>CX outer H s E e s'') (fun e' s''=>CX outer H s E e' s'') s'
theorem mR{sc:Hi}{n:Nat}{x:Str}(h:sc.names.lookup x=some .cell):∃c,(cellsFrom n sc.names []).lookup x=some c:=by
 have q:=HZ sc.names n []<|.inl h;exact Jy.mp q
theorem rd{CX:CXT}{P:E4}{w:E8}{K:DJ}{mg:Str->Option DM}{base:Heap}{N ps:List Str}{qual:Str}{scope:Hi}{f:Addr}{cd:DM}{A:EB}{outer:List Env}{s s1:DN}{H:Hp}{E:XK}{us:List DM}{vs:List V}
  (S:FnScope N ps scope) (hd:A.handled=none) (e0:Env0 P w K mg base A outer s H) (hl:vs.length=ps.length) (r:Vals vs us)
  (x:InCallC s s.heap.objs.size (bindL (envOfC qual scope s.heap.objs.size f cd).kindOf (ps.zip us) fun _=>none) (cellsFrom (s.heap.objs.size+1) scope.names []) (bindC (envOfC qual scope s.heap.objs.size f cd).kindOf (ps.zip us) fun _=>none) s1):
  Inv (r9 CX P w K mg base N qual scope f cd A outer s H E) [] (start N vs) H s1:=by
 have hpl:ps.length<=N.length:=by have:=congrArg H0 S.pre;rw[Im]at this;omega
 obtain⟨h1,tk,rfl,hk⟩:=x.done;have noA:∀b:Addr,b∉(r9 CX P w K mg base N qual scope f cd A outer s H E).ex:=fun b z=>absurd (show b∈([]:List Addr)from z) (by simp);refine⟨⟨e0.mod,S.kind,rfl,rfl,DQ _,fun y z c h1 h2=>?_,fun y hy=>?_,fun y c _ h=>?_,fun _=>hd,Around.frames_deeper e0.frames,.inr ⟨rfl,rfl⟩,fun b z=>absurd z<|noA b,e0.bs,e0.bsz,fun b _ _=>noA b,fun b z=>absurd z<|noA b,e0.funs,e0.frf⟩,
  rfl,e0.bare,Un.kept hk,⟨_,x.toInCall.ns,fun i y v h1 h2 h3=>?_⟩,fun y c h=>⟨_,x.cell y c h⟩,e0.hok.fresh (DQ _),fun y c h=>?_,fun p hp=>absurd (show p∈([]:List (Addr×Obj))from hp) (by simp),e0.hok.kept hk,?_⟩
 ·exact name_of_addr x.apart (FG h1)<|FG h2
 ·have hy:scope.names.lookup y=some .cell\/scope.names.lookup y=some .free:=hy;rcases hy with hy|hy
  ·exact mR hy
  ·exact absurd rfl<|S.nofree _<|FG hy
 ·exact HE<|x.above y c<|FG h
 ·have hi:i<vs.length:=by
   unfold start at h2;by_cases hi:i<vs.length;·exact hi
   ·rw[Ea (by simpa using hi)]at h2;rw[List.getElem?_replicate]at h2;split at h2<;>cases h2
  have ha:vs[i]? =some v:=by
   unfold start at h2;rw[Ef (by simpa using hi),DU]at h2;cases e:vs[i]? with
   |none=>rw[e]at h2;cases h2
   |some a=>rw[e]at h2;cases h2;rfl
  obtain⟨u,hu,rv⟩:=r.get ha;have hp:ps[i]? =some y:=by
   rw[<-S.pre,EC (by omega)];exact h1
  have ndP:ps.Nodup:=by rw[<-S.pre];exact S.nd.sublist<|List.take_sublist _ _
  refine⟨u,rv,?_⟩;rcases S.par y (Ek hp)with k|k
  ·exact .inl ⟨k,kW ndP hp hu k⟩
  ·obtain⟨c,e⟩:=mR (n:=s.heap.objs.size+1) k;refine .inr ⟨.inl k,c,e,?_⟩;have q:=x.cell y c e;rw[kX ndP hp hu (by show scope.names.lookup y≠_;rw[k];decide)]at q;exact q
 ·exact e0.hok.fresh<|HE<|x.above y c<|FG h
 ·unfold start;show _=N.length;rw[G5,El,List.length_replicate];omega
theorem Av{CX:CXT}{P:E4}{w:E8}{K:DJ}{mg:Str->Option DM}{base:Heap}{k:Nat}{f:Addr}{name qual:Str}{params:Arguments}{body:List Stmt}{scope:Hi}{dV kV doc pm cdv ct oc:DM}{an od:Option Addr}
  {osl:Array (Option DM)} {N ps:List Str} {sp:Sp} (lk:K.lookup f=some ⟨oc,od,.func<|Gn name qual params body scope dV kV doc pm an cdv ct,osl⟩) (hcd:I0 K cdv qual=true) (S:FnScope N ps scope)
  (len:∀vs H Q E,sp vs H Q E->vs.length=ps.length)
  (hbody:∀(A:EB) (outer:List Env) (s:DN) (H:Hp) (vs:List V) (Q:VK) (E:XK),Room k (A.deeper<|envOfC qual scope s.heap.objs.size f cdv)->sp vs H Q E->
   ∃t,PSs (r9 CX P w K mg base N qual scope f cdv A outer s H E) body t/\t {nx:=fun _ H'=>Q .non H',rt:=Q} (start N vs) H):
  FnOk P w K mg base CX (k+1) f (Gn name qual params body scope dV kV doc pm an cdv ct) ps sp:=by
 refine⟨len,fun A outer s H args us vs Q E hr e0 hb r hsp=>?_⟩;have hl:=len _ _ _ _ hsp;have KX:K.In s.heap:=e0.mod.kin.keeps fun b o e=>(e0.bs b o e).1;have lim:s.heap.NoLimit:=e0.mod.nolimit.keeps fun b o e=>(e0.bs b o e).1;have hkind:∀y∈ps.zip us,scope.names.lookup y.1=some .local\/(scope.names.lookup y.1=some .cell/\((cellsFrom (s.heap.objs.size+1) scope.names []).lookup y.1).isSome=true):=fun⟨n,v⟩hy=>by
  rcases S.par n (GB hy).1 with q|q;·exact .inl q
  ·exact .inr ⟨q,HZ _ _ _<|.inl q⟩
 refine codeAny_call_function hr.depth (KX _ _ lk) rfl S.co S.gen rfl (PySem.W.codeRec_of KX hcd)<|hb _ _ _ _ ?_;refine wpAny_newFunctionEnv_cells S.kind hkind fun env he s1 x=>?_;subst he;refine⟨lim.keeps x.toInCall.keep,codeAny_func ?_⟩;obtain⟨t,ht,hq⟩:=hbody A outer s H vs Q E (hr.deeper _) hsp;have I:Inv (r9 CX P w K mg base N qual scope f cdv A outer s H E) [] (start N vs) H s1:=rd S hr.hd e0 hl r x;refine F5 (ht [] s1 (start N vs) H _ I hq) (fun fl s' hs=>?_) fun e s' hs=>hs;have fin:∀{σ':St}{H':Hp}{v:V}{u:DM},Inv (r9 CX P w K mg base N qual scope f cdv A outer s H E) [] σ' H' s'->RelV v u->Q v H'->CE outer P w H s Q u s':=
  fun{σ' H' v u}J rv q=>⟨v,H',J.os,J.bare,J.base,J.hok,rv,q⟩
 cases fl with
 |ret u=>
  obtain⟨v,σ',H',J,rv,q⟩:=hs;exact fin J rv q
 |next=>
  obtain⟨σ',H',J,q⟩:=hs;exact fin (v:=V.non) (u:=Fc) J rfl q
 |brk=>
  obtain⟨_,_,_,q⟩:=hs;exact Ha q
 |cont=>
  obtain⟨_,_,_,q⟩:=hs;exact Ha q
section
variable{X:Cx}{x:Str}{p pos:Pos}{e:Expr}{es:List Expr}{t:TA}{id T:String}{r:List V->Hp->VK->Prop}
def mS(r:List V->Hp->VK->Prop)(t:TA):TE:=fun σ H Q=>t σ H fun vs H1=>r vs H1 Q
theorem aB(hc:dE X (.builtin id) r)(hg:Gl X x)(hm:X.mg x=none)(hv:bootBuiltins x=some (.builtin id))(ha:PA X (e::es) t)(hn:x≠"__name__":=by decide)(hdb:(x==("__debug__" :Str))=false:=by decide)
  (he:starEach (e::es) X.env=(false,eval e X.env)::starEach es X.env:=by rfl) (hpl:(backTo pos<|starEach es X.env).any (·.1)=false:=by rfl):PE X (.Call (.Name x p) (e::es) [] pos) (mS r t):=by
 intro pins s σ H Q I h;refine J4<|fw I hg hm hv ?_ hn hdb;exact Lx (bG (ha pos pins s σ H _ I h) fun us s1⟨vs,H1,I1,r1,q1⟩=>hc pins s1 σ H1 vs us Q I1 r1 q1) he hpl
theorem cJ(hc:dE X (.type T) r)(hg:Gl X x)(hm:X.mg x=none)(hv:bootBuiltins x=some (.type T))(ha:PA X (e::es) t)(hn:x≠"__name__":=by decide)(hdb:(x==("__debug__" :Str))=false:=by decide)
  (he:starEach (e::es) X.env=(false,eval e X.env)::starEach es X.env:=by rfl) (hpl:(backTo pos<|starEach es X.env).any (·.1)=false:=by rfl):PE X (.Call (.Name x p) (e::es) [] pos) (mS r t):=by
 intro pins s σ H Q I h;refine J4<|fw I hg hm hv ?_ hn hdb;exact F6 (bG (ha pos pins s σ H _ I h) fun us s1⟨vs,H1,I1,r1,q1⟩=>hc pins s1 σ H1 vs us Q I1 r1 q1) he hpl
end
end L2
open L2.FnScope renaming nd->NH
open L2.PW renaming pt->Ik
open L2.RelO renaming some_of->N2
open L2.SqL renaming of->Gk
open L2.SqT renaming of->Mg
open L2.V renaming int->Hr,str->JR
namespace HT
open PySem PyProof.Rows
section
open PySem.SeqAt
open PySem.AutoSeq1 (wpAny_loadPart')
open PySem.MeetsSeq PySem.MeetsSeq2 PySem.MeetsSeq3
end
section
variable{prog:E4}{w:E8}{A:EB}{E:DM->DN->Prop}{s:DN}
def sIx(n d:Nat):Option Int->Nat
 |none=>d
 |some v=>if v<0 then(v+(n:Int)).toNat else min v.toNat n
theorem sIx_le(n d:Nat)(hd:d<=n)(o:Option Int):sIx n d o<=n:=by
 cases o with
 |none=>exact hd
 |some v=>
  show(if v<0 then(v+(n:Int)).toNat else min v.toNat n)<=n;by_cases hv:v<0;·rw[if_pos hv];omega
  ·rw[if_neg hv];exact Nat.min_le_right _ _
end
end HT
namespace L2
open PySem PySem.Spec PyProof.Rows
abbrev TO:=St->Hp->(Option Int->Hp->Prop)->Prop
def PO(X:Cx)(e:Option Expr)(t:TO):Prop:=
 ∀(pins:List (Addr×Obj))(s:DN)(σ:St)(H:Hp)(Q:Option Int->Hp->Prop),Inv X pins σ H s->t σ H Q->
  wpAny (model X.prog X.w) X.A (evalPart e X.env) (fun u s'=>∃o H',Inv X pins σ H' s'/\IsPart u o/\Q o H') X.xe s
def pR:TO:=fun _ H Q=>Q none H
def tH(t:TE):TO:=fun σ H Q=>t σ H fun x H1=>∃i,x=.int i/\Q (some i) H1
theorem jy{ns:List Int}:∀{us:List DM},Vals (ns.map Hr) us->Lf us ns:=by
 induction ns with
 |nil=>intro us r;rw[Lg]at r;cases r;exact .nil
 |cons n ns ih=>
  intro us r;rw[EY]at r;cases r with
  |cons r1 r2=>
   obtain⟨t,e⟩:=r1;subst e;exact .cons n t<|ih r2
section
variable{X:Cx}{e:Expr}{te:TE}{lo hi:Option Expr}{tl th:TO}{pos p2:Pos}
theorem fB:PO X none pR:=by
 intro pins s σ H Q I h;rw[KI];exact DL ⟨none,H,I,.none,h⟩
theorem eO(h:PE X e te):PO X (some e) (tH te):=by
 intro pins s σ H Q I hw;rw[evalPart_some];refine bG (h pins s σ H _ I hw) fun u s1 zz=>?_;obtain⟨x,H1,I1,r1,q1⟩:=zz;obtain⟨i,rfl,q⟩:=q1;obtain⟨t,rfl⟩:=r1;exact⟨some i,H1,I1,.int i t,q⟩
def Bw(X:Cx)(r:V->Option Int->Option Int->Hp->VK->Prop):Prop:=
 ∀(pins:List (Addr×Obj))(s:DN)(σ:St)(H:Hp)(x:V)(v vl vu:DM)(lo hi:Option Int)(sl:Addr)(Q:VK),Inv X pins σ H s->RelV x v->s.heap.IsSliceOf sl vl vu .none->IsPart vl lo->IsPart vu hi->r x lo hi H Q->
  ∃T id,typeLookup (.type T) "__getitem__"=pure (some<|.builtin id)/\s.TypeIs v T/\wpAny (model X.prog X.w) X.A (getItem v<|.ref sl) (EP X pins σ Q) X.xe s
def Bx(r:V->Option Int->Option Int->Hp->VK->Prop)(te:TE)(tl th:TO):TE:=fun σ H Q=>te σ H fun x H1=>tl σ H1 fun l H2=>th σ H2 fun u H3=>r x l u H3 Q
theorem ee{r:V->Option Int->Option Int->Hp->VK->Prop}(hr:Bw X r)(he:PE X e te)(hl:PO X lo tl)(hu:PO X hi th):PE X (.Subscript e (.Slice lo hi none p2) pos) (Bx r te tl th):=by
 intro pins s σ H Q I h;refine KY<|bG (he pins s σ H _ I h) fun v s1 zz=>?_;obtain⟨x,H1,I1,r1,q1⟩:=zz;refine wpAny_Slice<|bG (hl pins s1 σ H1 _ I1 q1) fun vl s2 zz=>?_;obtain⟨l,H2,I2,pl,q2⟩:=zz;refine bG (hu pins s2 σ H2 _ I2 q2) fun vu s3 zz=>?_;obtain⟨u,H3,I3,pu,q3⟩:=zz;rw[KI];refine DL ?_;have I4:Inv X pins σ H3 {s3 with heap:=s3.heap.push {cls:=.type "slice",data:=.fields #[vl,vu,.none]}}:=I3.kept (t':=s3.toks) fun b ob q=>DH _ q;obtain⟨T,id,hT,ht,hg⟩:=hr pins {s3 with heap:=s3.heap.push {cls:=.type "slice",data:=.fields #[vl,vu,.none]}} σ H3 x v vl vu l u s3.heap.objs.size Q I4 r1 (KZ ..) pl pu q3;show wpAny (model X.prog X.w) X.A (subscriptTail e (.Slice lo hi none p2) v<|.ref s3.heap.objs.size) (EP X pins σ Q) X.xe {s3 with heap:=s3.heap.push {cls:=.type "slice",data:=.fields #[vl,vu,.none]}};exact Nd (ops:=[.ref s3.heap.objs.size,v]) ht hT hg (by with_unfolding_all rfl)
def oD(xs:List V)(lo hi:Option Int):List V:=(xs.drop<|HT.sIx xs.length 0 lo).take (HT.sIx xs.length xs.length hi-HT.sIx xs.length 0 lo)
theorem mT(xs:List V)(lo hi:Option Int):(oD xs lo hi).length<=xs.length:=by
 unfold oD;rw[Im,Ly];omega
end
def ixN(n:Nat)(i:Int):Option Nat:=if 0<=i then(if i<n then some i.toNat else none)else if -(n:Int)<=i then some (i+n).toNat else none
def atI{α:Type}(xs:List α)(i:Int):Option α:=(ixN xs.length i).bind fun j=>xs[j]?
theorem pS{n:Nat}{i:Int}{j:Nat}(h:ixN n i=some j):seqIndex? i n=some j/\j<n/\ -(n:Int)<=i/\i<n:=by
 unfold ixN at h;by_cases h0:0<=i
 ·rw[if_pos h0]at h;by_cases h1:i<n
  ·rw[if_pos h1]at h;have e:i.toNat=j:=Es h;exact⟨by rw[LJ h0 h1,e],by omega,by omega,h1⟩
  ·rw[if_neg h1]at h;cases h
 ·rw[if_neg h0]at h;by_cases h1: -(n:Int)<=i
  ·rw[if_pos h1]at h;have e:(i+n).toNat=j:=Es h;exact⟨by rw[Lh (by omega) h1,e],by omega,h1,by omega⟩
  ·rw[if_neg h1]at h;cases h
theorem lG{α:Type}{xs:List α}{i:Int}{v:α}(h:atI xs i=some v):∃j,seqIndex? i xs.length=some j/\xs[j]? =some v/\j<xs.length/\ -(xs.length:Int)<=i/\i<xs.length:=by
 unfold atI at h;cases e:ixN xs.length i with
 |none=>rw[e]at h;cases h
 |some j=>
  rw[e]at h;obtain⟨h1,h2,h3,h4⟩:=pS e;exact⟨j,h1,h,h2,h3,h4⟩
def wB(b:Expr):Prop:=∀o i,subscripted b false o i=operate [o,i] (getItem o i)
def A4(X:Cx)(r:R2):Prop:=
 ∀(value slice:Expr)(pins:List (Addr×Obj))(s:DN)(σ:St)(H:Hp)(x y:V)(v u:DM)(Q:VK),Inv X pins σ H s->RelV x v->RelV y u->r x y H Q->
  subscripted slice false v u=operate [v,u] (getItem v u)->wpAny (model X.prog X.w) X.A (subscriptTail value slice v u) (EP X pins σ Q) X.xe s
def Aw(X:Cx)(id:String)(r:V->List V->Hp->VK->Prop):Prop:=
 ∀(pins:List (Addr×Obj))(s:DN)(σ:St)(H:Hp)(x:V)(xs:List V)(v:DM)(us:List DM)(Q:VK),Inv X pins σ H s->RelV x v->Vals xs us->r x xs H Q->
  wpAny (model X.prog X.w) X.A (call (.builtin id) (v::us)) (EP X pins σ Q) X.xe s
section
variable{X:Cx}{a b:Expr}{ta tb:TE}{pos:Pos}
theorem aw{r:R2}(hr:A4 X r)(ha:PE X a ta)(hb:PE X b tb)(hs:wB b):PE X (.Subscript a b pos) (gV r ta tb):=by
 intro pins s σ H Q I h;exact KY<|z6 ha hb I h fun v u s2 x y H2 I2 rx ry q=>hr a b pins s2 σ H2 x y v u Q I2 rx ry q<|hs _ _
def wC(K:DJ):R2:=fun x y H Q=>∃p xs i v,x=.ref p/\y=.int i/\SqL K H p xs/\atI xs i=some v/\Q v H
def zc(K:DJ):R2:=fun x y H Q=>∃p xs i v,x=.ref p/\y=.int i/\SqT K H p xs/\atI xs i=some v/\Q v H
def Ax:R2:=fun x y H Q=>∃z i c,x=.str z/\y=.int i/\z.length<=sizeLine/\atI z.cps.toList i=some c/\Q (.str ⟨#[c]⟩) H
theorem wD:A4 X (wC X.K):=by
 intro value slice pins s σ H x y v u Q I rx ry h hs;obtain⟨p,xs,i,z,rfl,rfl,hq,he,q⟩:=h;cases rx;obtain⟨t,rfl⟩:=ry;obtain⟨its,r,pl,hz⟩:=I.list hq;obtain⟨j,h1,h2,h3,h4,h5⟩:=lG he;obtain⟨w,ew,rw'⟩:=r.get h2;have hl:=r.length;have hn:=jx;have fin:EP X pins σ Q w s:=⟨z,H,I,rw',q⟩
 by_cases h0:0<=i
 ·have hj:i.toNat=j:=by
   rw[LJ h0 h5]at h1;exact Es h1
  exact item_listR pl.isList h0 (by omega) (by rw[hj];simpa using ew) fin hs
 ·have hj:(i+(its.toArray.size:Int)).toNat=j:=by
   rw[Lh (by omega) h4]at h1;rw[DY,<-hl];exact Es h1
  exact JV (x:=w) pl.isList.typeIs Jp.lookup
   (wpAny_getItem_list_neg (Q:=fun r s'=>r=w/\EP X pins σ Q r s') pl.isList (by omega) (by rw[DY]<;>omega) (by omega) (by rw[hj];simpa using ew) ⟨rfl,fin⟩) hs
theorem zd:A4 X (zc X.K):=by
 intro value slice pins s σ H x y v u Q I rx ry h hs;obtain⟨p,xs,i,z,rfl,rfl,hq,he,q⟩:=h;cases rx;obtain⟨t,rfl⟩:=ry;obtain⟨its,r,pl,hz⟩:=I.tuple hq;obtain⟨j,h1,h2,h3,h4,h5⟩:=lG he;obtain⟨w,ew,rw'⟩:=r.get h2;have hl:=r.length;have hn:=jx;have fin:EP X pins σ Q w s:=⟨z,H,I,rw',q⟩
 exact JV (x:=w) pl.typeIs slot_tuple_getitem.lookup
  (getItem_tuple (j:=j) (Q:=fun r s'=>r=w/\EP X pins σ Q r s') pl (by omega) (by omega) (by rw[DY,<-hl];exact h1) (by simpa using ew) ⟨rfl,fin⟩) hs
theorem bD:A4 X Ax:=by
 intro value slice pins s σ H x y v u Q I rx ry h hs;obtain⟨z,i,c,rfl,rfl,hz,he,q⟩:=h;obtain⟨t,rfl⟩:=rx;obtain⟨t',rfl⟩:=ry;obtain⟨j,h1,h2,h3,h4,h5⟩:=lG he;have hl:z.cps.toList.length=z.length:=by simp[NA]
 rw[hl]at h1 h4 h5;have hn:=jx;exact Nd (M5 s z t) slot_str_getitem.lookup (getItem_str (c:=c) (by
  have e1:decide (i< -(2^63:Int))=false:=decide_eq_false (by omega);have e2:decide (i≥2^63)=false:=decide_eq_false (by omega);rw[e1,e2,Bool.or_false]) (by rw[h1];simpa using h2) ⟨.str ⟨#[c]⟩,H,I.tok _,⟨_,rfl⟩,q⟩) hs
theorem oE(its:List DM)(n j:Nat)(u:DM):Gu (·.setIfInBounds j u) {cls:=.type "list",data:=.seq its.toArray n}={cls:=.type "list",data:=.seq (its.set j u).toArray n}:=by
 simp[Gu]
theorem Inv.lst{pins:List (Addr×Obj)}{σ:St}{H:Hp}{s:DN}{p:Addr}{xs:List V}(I:Inv X pins σ H s)(h:H p=some (.lst xs)):
  ∃(its:List DM)(n:Nat),Vals xs its/\s.heap.get? p=some {cls:=.type "list",data:=.seq its.toArray n}/\xs.length<=sizeLine:=by
 obtain⟨z,its,n,r,e⟩:=I.hok p _ h;exact⟨its,n,r,e,z⟩
theorem Inv.lstUpd{pins:List (Addr×Obj)}{σ:St}{H:Hp}{s:DN}{p:Addr}{xs ys:List V}{its its':List DM}{n n':Nat}{f:Obj->Obj}(I:Inv X pins σ H s)(h:H p=some (.lst xs))
  (ho:s.heap.get? p=some {cls:=.type "list",data:=.seq its.toArray n}) (hf:f {cls:=.type "list",data:=.seq its.toArray n}={cls:=.type "list",data:=.seq its'.toArray n'}) (r:Vals ys its') (hz:ys.length<=sizeLine) (t:Nat):
  Inv X pins σ (cn H p<|.lst ys) {s with heap:=s.heap.update p f,toks:=t}:=by
 have e:(s.heap.update p f).get? p=some {cls:=.type "list",data:=.seq its'.toArray n'}:=by
  rw[FN f ho (by rw[hf]<;>rfl),hf]
 refine I.write (x:=p) (e:=p) (by rw[h];trivial) (.inl rfl) (fun b u hb q=>(I9 _ _<|HN hb).trans q) ⟨_,e⟩ ?_;exact⟨hz,its',n',r,e⟩
def tI:V->V->V->Hp->(Hp->Prop)->Prop:=fun o i v H Q=>∃p xs k j,o=.ref p/\i=.int k/\H p=some (.lst xs)/\ixN xs.length k=some j/\Q (cn H p<|.lst<|xs.set j v)
theorem fR:Ao X tI:=by
 intro pins s σ H o i v ov iv u Q I ro ri rv h;obtain⟨p,xs,k,j,rfl,rfl,hp,hj,q⟩:=h;cases ro;obtain⟨t,rfl⟩:=ri;obtain⟨its,n,r,ho,hz⟩:=I.lst hp;obtain⟨h1,h2,h3,h4⟩:=pS hj;have hl:=r.length;have hn:=jx;have I':Inv X pins σ (cn H p<|.lst<|xs.set j v) {s with heap:=s.heap.update p (Gu (·.setIfInBounds j u))}:=
  I.lstUpd hp ho (oE its n j u) (r.set rv j) (by rw[LO];exact hz) s.toks
 by_cases h0:0<=k
 ·have hk:k.toNat=j:=by
   rw[LJ h0 h4]at h1;exact Es h1
  exact PySem.W.ki_setAt ho h0 (by omega) (by rw[DY,<-hl];exact h4) (by rw[hk];exact⟨_,I',q⟩)
 ·have hk:(k+(its.toArray.size:Int)).toNat=j:=by
   rw[Lh (by omega) h3]at h1;rw[DY,<-hl];exact Es h1
  exact PySem.W.ki_setBack ho (by omega) (by rw[DY,<-hl];exact h3) (by omega) (by rw[hk];exact⟨_,I',q⟩)
theorem lH(lo hi:Option Int)(n:Nat):(sliceBounds lo hi none n).1=((HT.sIx n 0 lo:Nat):Int)/\(sliceBounds lo hi none n).2.1=((HT.sIx n n hi:Nat):Int)/\(sliceBounds lo hi none n).2.2=1:=by
 refine⟨?_,?_,rfl⟩
 ·cases lo with
  |none=>simp[sliceBounds,HT.sIx]
  |some i=>
   simp only[sliceBounds,HT.sIx,JK,show(1:Int)>0 by decide,if_true];by_cases h:i<0;·simp only[h,if_true]<;>omega
   ·simp only[h,if_false]<;>omega
 ·cases hi with
  |none=>simp[sliceBounds,HT.sIx]
  |some i=>
   simp only[sliceBounds,HT.sIx,JK,show(1:Int)>0 by decide,if_true];by_cases h:i<0;·simp only[h,if_true]<;>omega
   ·simp only[h,if_false]<;>omega
theorem kL(its:List DM)(lo hi:Option Int):slicePick its.toArray lo hi none=((its.drop<|HT.sIx its.length 0 lo).take (HT.sIx its.length its.length hi-HT.sIx its.length 0 lo)).toArray:=by
 obtain⟨h1,h2,h3⟩:=lH lo hi its.toArray.size;unfold slicePick;rw[h1,h2,h3];simp only[Kt,pick_run,DY]<;>rfl
def ze(K:DJ):V->Option Int->Option Int->Hp->VK->Prop:=fun x lo hi H Q=>∃a xs,x=.ref a/\SqL K H a xs/\∀p,H p=none->Q (.ref p) (cn H p<|.lst<|oD xs lo hi)
theorem wF:Bw X (ze X.K):=by
 intro pins s σ H x v vl vu lo hi sl Q I rx hs pl pu h;obtain⟨a,xs,rfl,hx,q⟩:=h;cases rx;obtain⟨its,r,ht,hz⟩:=I.list hx;have hlen:=r.length;refine⟨"list",_,Jp.lookup,ht.isList.typeIs,?_⟩;refine Jz ht.isList hs pl pu .none (by simp) ?_ (by rw[DY]<;>omega);rw[kL,<-hlen];refine⟨.ref s.heap.objs.size,_,I.laid (t':=s.toks) (o:=.lst<|oD xs lo hi) (fun b ob q=>DH _ q) (DQ _) ?_,rfl,q _<|I.hok.fresh<|DQ _⟩;exact⟨FO (mT xs lo hi) hz,_,0,(r.drop<|HT.sIx xs.length 0 lo).take (HT.sIx xs.length xs.length hi-HT.sIx xs.length 0 lo),DS _ rfl⟩
def flatV:V->Bool
 | .non=>true
 | .bl _=>true
 | .int _=>true
 | .str _=>true
 |_=>false
def eqV:V->V->Bool
 | .non,.non=>true
 | .bl a,.bl b=>a==b
 | .bl a,.int b=>(if a then 1 else 0)==b
 | .int a,.bl b=>a==(if b then 1 else 0)
 | .int a,.int b=>a==b
 | .str a,.str b=>a==b
 |_,_=>false
theorem zf{A:EB}{s:DN}{y x:V}{u v:DM}(ry:RelV y u)(rx:RelV x v)(fy:flatV y=true)(fx:flatV x=true):L0 A s u v (eqV y x):=by
 cases y with
 |non=>
  cases ry;cases x with
  |non=>cases rx;exact LP _
  |bl b=>cases rx;exact Nf b
  |int b=>obtain⟨t,rfl⟩:=rx;exact Np b t
  |str b=>obtain⟨t,rfl⟩:=rx;exact Nq b t
  |_=>exact absurd (show false=true from fx) E3
 |bl a=>
  cases ry;cases x with
  |non=>cases rx;exact Ng a
  |bl b=>cases rx;exact Nh a b
  |int b=>obtain⟨t,rfl⟩:=rx;exact Nr a b t
  |str b=>obtain⟨t,rfl⟩:=rx;exact Nt a b t
  |_=>exact absurd (show false=true from fx) E3
 |int a=>
  obtain⟨t',rfl⟩:=ry;cases x with
  |non=>cases rx;exact Nu a t'
  |bl b=>cases rx;exact Nv a t' b
  |int b=>obtain⟨t,rfl⟩:=rx;exact J5 a t' b t
  |str b=>obtain⟨t,rfl⟩:=rx;exact KR a t' b t
  |_=>exact absurd (show false=true from fx) E3
 |str a=>
  obtain⟨t',rfl⟩:=ry;cases x with
  |non=>cases rx;exact Nw a t'
  |bl b=>cases rx;exact Ny a t' b
  |int b=>obtain⟨t,rfl⟩:=rx;exact KS a t' b t
  |str b=>obtain⟨t,rfl⟩:=rx;exact NB a t' b t
  |_=>exact absurd (show false=true from fx) E3
 |_=>exact absurd (show false=true from fy) E3
def wG(x:V)(u:DM):Bool:=match u with
 | .none=>eqV .non x
 | .bool b=>eqV (.bl b) x
 | .int i _=>eqV (.int i) x
 | .str z _=>eqV (.str z) x
 |_=>false
theorem tJ{x y:V}{u:DM}(r:RelV y u)(f:flatV y=true):wG x u=eqV y x:=by
 cases y with
 |non=>cases r;rfl
 |bl b=>cases r;rfl
 |int i=>obtain⟨t,rfl⟩:=r;rfl
 |str z=>obtain⟨t,rfl⟩:=r;rfl
 |_=>exact absurd (show false=true from f) E3
theorem lI{x:V}:∀{xs:List V}{us:List DM},Vals xs us->xs.all flatV=true->us.any (wG x)=xs.any fun y=>eqV y x
 |_,_,.nil,_=>rfl
 |y::xs,u::us, .cons r t,f=>by
  rw[JA,GN]at f;rw[HJ,HJ,tJ r f.1,lI t f.2]
theorem jz{A:EB}{s:DN}{x:V}{v:DM}(rx:RelV x v)(fx:flatV x=true):∀{xs:List V}{us:List DM},Vals xs us->xs.all flatV=true->∀u∈us,L0 A s u v (wG x u)
 |_,_,.nil,_=>fun u hu=>by cases hu
 |y::xs,u::us, .cons r t,f=>fun u' hu=>by
  rw[JA,GN]at f;rcases E1.mp hu with rfl|hu
  ·rw[tJ r f.1];exact zf r rx f.1 fx
  ·exact jz rx fx t f.2 u' hu
def By(x:V)(xs:List V):Bool:=xs.any fun y=>eqV y x
def Cq(K:DJ)(neg:Bool):R2:=fun x y H Q=>∃p xs,y=.ref p/\(SqL K H p xs\/SqT K H p xs)/\flatV x=true/\xs.all flatV=true/\Q (.bl (if neg then !By x xs else By x xs)) H
theorem lJ:gX X (compareOp .NotIn) (Cq X.K true):=by
 intro pins s σ H x y v u Q I rx ry h;obtain⟨p,xs,rfl,hq,fx,fs,q⟩:=h;cases ry;rcases hq with hq|hq
 ·obtain⟨its,r,pl,hz⟩:=I.list hq;refine L1 (wG x) pl.isList (fun w hw=>jz rx fx r fs w (by simpa using hw)) ⟨.bl _,H,I,rfl,?_⟩;rw[show its.toArray.any (wG x)=its.any (wG x) by simp,lI r fs];exact q
 ·obtain⟨its,r,pl,hz⟩:=I.tuple hq;refine SeqAt.notIn_tupleAt (wG x) pl (fun w hw=>jz rx fx r fs w (by simpa using hw)) ⟨.bl _,H,I,rfl,?_⟩;rw[show its.toArray.any (wG x)=its.any (wG x) by simp,lI r fs];exact q
theorem lK:dE X (.type "list") (fun xs H Q=>∃p ys,xs=[.ref p]/\(SqL X.K H p ys\/SqT X.K H p ys)/\∀l,H l=none->Q (.ref l) (cn H l<|.lst ys)):=by
 intro pins s σ H xs us Q I r h;obtain⟨p,ys,rfl,hq,q⟩:=h;obtain⟨u,rfl,rx⟩:=fh r;cases rx;have fin:∀(its:List DM),Vals ys its->ys.length<=sizeLine->∀(h':Heap)(c':Nat),(∀b o',s.heap.get? b=some o'->h'.get? b=some o')->
   h'.get? s.heap.objs.size=some {cls:=.type "list",dict:=none,data:=.seq its.toArray c',slots:= #[]}->EP X pins σ Q (.ref s.heap.objs.size) {s with heap:=h'}:=fun its r' hz h' c' kp e=>
  ⟨.ref s.heap.objs.size,_,I.laid (t':=s.toks) kp (DQ _) (show ObjOk X.prog X.w _ h' _ (.lst ys)from⟨hz,its,c',r',e⟩),rfl,q _<|I.hok.fresh<|DQ _⟩
 rcases hq with hq|hq
 ·obtain⟨its,r',pl,hz⟩:=I.list hq;have hlen:=r'.length;obtain⟨o,ho,hc,n,hd⟩:=pl.isList;exact MI p (.inl rfl) ho hc hd (fun h' c' kp e=>fin its r' hz h' c' kp e) (by simp only[DY]<;>omega)
 ·obtain⟨its,r',pl,hz⟩:=I.tuple hq;have hlen:=r'.length;obtain⟨o,ho,hc,n,hd⟩:=pl;exact MI p (.inr rfl) ho hc hd (fun h' c' kp e=>fin its r' hz h' c' kp e) (by simp only[DY]<;>omega)
theorem kM:dE X (.type "tuple") (fun xs H Q=>∃p ys,xs=[.ref p]/\((SqL X.K H p ys/\∀l,H l=none->Q (.ref l) (cn H l<|.tup ys))\/(SqT X.K H p ys/\Q (.ref p) H))):=by
 intro pins s σ H xs us Q I r h;obtain⟨p,ys,rfl,h⟩:=h;obtain⟨u,rfl,rx⟩:=fh r;cases rx;rcases h with⟨hq,q⟩|⟨hq,q⟩
 ·obtain⟨its,r',pl,hz⟩:=I.list hq;have hlen:=r'.length;refine call_tuple_list pl.isList (fun h' kp=>?_) (by simp only[DY]<;>omega);have I1:Inv X pins σ H {s with heap:=h'}:=I.kept (t':=s.toks) kp;have I2:Inv X pins σ (cn H h'.objs.size<|.tup ys) {s with heap:=h'.push {cls:=.type "tuple",data:=.seq its.toArray}}:=
   I1.laid (t':=s.toks) (fun b o e=>DH _ e) (DQ _) (show ObjOk X.prog X.w _ _ _ (.tup ys)from⟨hz,its,r',IsTupD.new _ _⟩)
  exact⟨.ref h'.objs.size,_,I2,rfl,q _<|I1.hok.fresh<|DQ _⟩
 ·obtain⟨its,r',pl,hz⟩:=I.tuple hq;exact call_tuple_same pl ⟨.ref p,H,I,rfl,q⟩
def Cr(K:DJ)(T:String)(x:V)(H:Hp):Prop:=match x with
 | .str _=>T="str"
 | .int _=>T="int"
 | .ref p=>(T="list" /\∃xs,SqL K H p xs)\/(T="tuple" /\((∃o,K.lookup p=some o/\o.cls=.type "tuple" /\o.dict=none)\/∃xs,SqT K H p xs))\/
   (T="dict"/\((∃kvs,H p=some (.dK kvs))\/∃kvs,H p=some (.dT kvs)))\/(T="set"/\∃S n,H p=some (.set S n))
 |_=>False
theorem zg{pins:List (Addr×Obj)}{σ:St}{H:Hp}{s:DN}{T:String}{x:V}{v:DM}(I:Inv X pins σ H s)(r:RelV x v)(ty:Cr X.K T x H):
  s.TypeIs v T/\∀a,v=.ref a->∃ob,s.heap.get? a=some ob/\ob.dict=none:=by
 cases x with
 |str z=>
  obtain⟨t,rfl⟩:=r;cases (show T="str" from ty);exact⟨M5 s z t,fun _ e=>nomatch e⟩
 |int i=>
  obtain⟨t,rfl⟩:=r;cases (show T="int" from ty);exact⟨typeIs_int s i t,fun _ e=>nomatch e⟩
 |ref p=>
  cases r;rcases ty with⟨rfl,xs,hq⟩|⟨rfl,⟨o,hk,hc,hd⟩|⟨xs,hq⟩⟩|⟨rfl,hk⟩|⟨rfl,S,n,hk⟩
  ·obtain⟨its,_,pl,_⟩:=I.list hq;refine⟨pl.isList.typeIs,fun a e=>?_⟩;cases e;obtain⟨o,n,e,c,hd,_⟩:=pl;exact⟨o,e,hd⟩
  ·refine⟨⟨o,I.kIn p o hk,hc⟩,fun a e=>?_⟩;cases e;exact⟨o,I.kIn _ o hk,hd⟩
  ·obtain⟨o,e1,c1,d1⟩:∃o,s.heap.get? p=some o/\o.cls=.type "tuple"/\o.dict=none:=by
    rcases hq with hq|⟨o,its,n,hk,hc,_⟩
    ·obtain⟨_,_,_,o,e1,⟨c1,d1⟩,_⟩:=hq.ok I.hok;exact⟨o,e1,c1,d1⟩
    ·exact⟨o,I.kIn p o hk,hc.1,hc.2⟩
   refine⟨⟨o,e1,c1⟩,fun a e=>?_⟩;cases e;exact⟨o,e1,d1⟩
  ·have z:∃o,s.heap.get? p=some o/\o.ExactDict:=by
    rcases hk with⟨kvs,hk⟩|⟨kvs,hk⟩
    ·obtain⟨_,_,_,_,o,_,_,e,ex,_⟩:=I.hok p _ hk;exact⟨o,e,ex⟩
    ·obtain⟨_,_,_,_,o,_,_,e,ex,_⟩:=I.hok p _ hk;exact⟨o,e,ex⟩
   obtain⟨o,e,ex⟩:=z;refine⟨⟨o,e,ex.1⟩,fun a e2=>?_⟩;cases e2;exact⟨o,e,ex.2.1⟩
  ·obtain⟨o,_,_,_,e,ex,_⟩:=I.hok p _ hk;refine⟨⟨o,e,ex.1⟩,fun a e2=>?_⟩;cases e2;exact⟨o,e,ex.2.1⟩
 |_=>exact Ha ty
def wH(K:DJ)(T:String)(r:V->List V->Hp->VK->Prop)(to:TE)(t:TA):TE:=fun σ H Q=>to σ H fun x H1=>Cr K T x H1/\t σ H1 fun xs H2=>r x xs H2 Q
variable{o e:Expr}{es:List Expr}{to:TE}{t:TA}{name:Str}{apos cpos:Pos}{T id:String}{r:V->List V->Hp->VK->Prop}
theorem Ay(pa:PlainAttrs T)(slot:Slot T name id)(hty:typeOf (.builtin id)=pure (.type "method_descriptor"))(hm:Aw X id r)(ho:PE X o to)(ha:PA X (e::es) t)
  (hbase:attributeBase o name X.env (eval o X.env)=eval o X.env:=by rfl)
  (hfew:((backTo cpos<|starEach (e::es) X.env).all (fun x=> !x.1) && (backToKw cpos<|keywordEach [] X.env).all (fun x=>x.1.isSome)
   &&decide ((e::es).length+([]:List JW).length+(if([]:List JW).isEmpty then 0 else 1)<30))=true:=by rfl)
  (hline:(apos.endLine==cpos.line)=true:=by rfl) (hs:starEach (e::es) X.env=(false,eval e X.env)::starEach es X.env:=by rfl) (hplain:(backTo cpos<|starEach es X.env).any (·.1)=false:=by rfl):
  PE X (.Call (.Attribute o name apos) (e::es) [] cpos) (wH X.K T r to t):=by
 intro pins s σ H Q I h;refine JX hbase hfew hline rfl<|bG (ho pins s σ H _ I h) fun v s1 zz=>?_;obtain⟨x,H1,I1,r1,ty,q1⟩:=zz;obtain⟨h1,h2⟩:=zg I1 r1 ty;refine⟨T,id,pa,slot,hty,h1,h2,?_⟩;have hA:=ha cpos pins s1 σ H1 _ I1 q1;rw[hs]at hA ⊢;refine Calls.callWith_builtin (by show(false||(backTo cpos<|starEach es X.env).any (·.1))=false;rw[hplain]<;>rfl)<|Calls.evalArgs_plain ?_;refine bG hA fun us s2 zz=>?_;obtain⟨vs,H2,I2,r2,q2⟩:=zz;exact hm pins s2 σ H2 x vs v us Q I2 r1 r2 q2
end
def CN(X:Cx)(id:String)(r:V->List V->Hp->VK->Prop):Prop:=
 ∀(pins:List (Addr×Obj))(s:DN)(σ:St)(H:Hp)(x:V)(xs:List V)(v:DM)(us:List DM)(Q:VK),Inv X pins σ H s->RelV x v->Vals xs us->r x xs H Q->
  wpAny (model X.prog X.w) X.A (call (.builtin id) (v::us)) (EP X pins σ Q) X.xe s
theorem Vals.one:∀{x:V}{us:List DM},Vals [x] us->∃u,us=[u]/\RelV x u
 |_,_,.cons r .nil=>⟨_,rfl,r⟩
section
variable{X:Cx}{pins:List (Addr×Obj)}{σ:St}{H:Hp}{s:DN}{l b:Addr}{xs ys zs:List V}
theorem Inv.lset{its its':List DM}{n:Nat}{f:Array DM->Array DM}{t':Nat}(I:Inv X pins σ H s)(hH:H l=some (.lst xs))
  (e:s.heap.get? l=some {cls:=.type "list",data:=.seq its.toArray n}) (hf:f its.toArray=its'.toArray) (hv:Vals ys its') (hz:ys.length<=sizeLine):
  Inv X pins σ (cn H l<|.lst ys) {s with heap:=s.heap.update l<|Gu f,toks:=t'}:=by
 have q:=PySem.IsL.update e f;rw[hf]at q;refine I.write (x:=l) (e:=l) (by rw[hH];exact trivial) (.inl rfl) (fun b' u hb hu=>(I9 s.heap (Gu f)<|HN hb).trans hu) ⟨_,q⟩ ?_;exact⟨hz,its',_,hv,q⟩
theorem Inv.lnew{its:List DM}{t':Nat}(I:Inv X pins σ H s)(hv:Vals ys its)(hz:ys.length<=sizeLine):
  Inv X pins σ (cn H s.heap.objs.size<|.lst ys) {s with heap:=s.heap.push {cls:=.type "list",data:=.seq its.toArray},toks:=t'}:=
 I.laid (fun _ _ q=>DH _ q) (DQ _) ⟨hz,its,0,hv,DS _ rfl⟩
theorem Inv.fresh(I:Inv X pins σ H s):H s.heap.objs.size=none:=I.hok.fresh<|DQ _
theorem Inv.lstM(I:Inv X pins σ H s)(hH:H l=some (.lst xs)):xs.length<=sizeLine/\∃(its:List DM)(n:Nat),Vals xs its/\xs.length=its.length/\s.heap.get? l=some {cls:=.type "list",data:=.seq its.toArray n}:=by
 obtain⟨z,its,n,r,e⟩:=I.hok l _ hH;exact⟨z,its,n,r,r.length,e⟩
end
section
variable{X:Cx}
def jf:V->List V->Hp->VK->Prop:=fun x vs H Q=>∃l xs y,x=.ref l/\vs=[y]/\H l=some (.lst xs)/\xs.length<sizeLine/\Q .non (cn H l<|.lst<|xs++[y])
theorem rf:CN X "list.append" jf:=by
 intro pins s σ H x vs v us Q I rx rv h;obtain⟨l,xs,y,rfl,rfl,hH,hz,q⟩:=h;cases rx;obtain⟨u,rfl,ru⟩:=rv.one;obtain⟨z,its,n,r,hl,e⟩:=I.lstM hH;refine call_meets Ka ⟨_,e,rfl⟩ F.entry_list_append (F.args_list_append_2 _ _) (PySem.list_append l its.toArray n u (by rw[DY];omega)) ⟨e,?_⟩;refine⟨.non,_,I.lset (its':=its++[u]) hH e (by simp) (r.append<|.cons ru .nil) ?_,rfl,q⟩;rw[G5,Kb];omega
def Az:R2:=fun x y H Q=>∃l b xs zs,x=.ref l/\y=.ref b/\H l=some (.lst xs)/\H b=some (.lst zs)/\xs.length+zs.length<=sizeLine/\∀p,H p=none->Q (.ref p) (cn H p<|.lst<|xs++zs)
theorem tK:gX X (binaryOp .Add) Az:=by
 intro pins s σ H x y v u Q I rx ry h;obtain⟨l,b,xs,zs,rfl,rfl,hH,hB,hz,q⟩:=h;cases rx;cases ry;obtain⟨z,its,n,r,hl,e⟩:=I.lstM hH;obtain⟨z2,its2,n2,r2,hl2,e2⟩:=I.lstM hB;refine PySem.P.add_list e e2 ?_ (by rw[DY,DY];omega);have ea:its.toArray++its2.toArray=(its++its2).toArray:=by simp
 rw[ea];exact⟨.ref _,_,I.lnew (t':=s.toks) (r.append r2) (by rw[G5];omega),rfl,q _ I.fresh⟩
end
section
variable{κ:Type}[DecidableEq κ]
def f9(kvs:List (κ×V))(k:κ):Option V:=(kvs.find? fun kv=>decide<|kv.1=k).map (·.2)
def oF(kvs:List (κ×V))(k:κ)(v:V):List (κ×V):=
 if(kvs.any fun kv=>decide<|kv.1=k)=true then kvs.map (fun kv=>if kv.1=k then(kv.1,v)else kv)else kvs++[(k,v)]
theorem fS{p:κ×V}{r:List (κ×V)}{k:κ}(e:p.1=k):f9 (p::r) k=some p.2:=by simp[f9,FP,e]
theorem fT{p:κ×V}{r:List (κ×V)}{k:κ}(e:¬p.1=k):f9 (p::r) k=f9 r k:=by simp[f9,FP,e]
theorem mU(k:κ):∀kvs:List (κ×V),(kvs.any fun kv=>decide<|kv.1=k)=(f9 kvs k).isSome
 | []=>rfl
 |p::r=>by
  rw[HJ];by_cases e:p.1=k;·simp only[fS e,decide_eq_true e,Bool.true_or,L3]
  ·rw[fT e,decide_eq_false e,Bool.false_or];exact mU k r
theorem RelO.isSome_eq{o:Option V}{u:Option DM}(r:RelO o u):o.isSome=u.isSome:=by
 cases o with
 |none=>cases u with
  |none=>rfl
  |some _=>exact(show False from r).elim
 |some _=>cases u with
  |none=>exact(show False from r).elim
  |some _=>rfl
theorem KV.val{kvs:List (κ×V)}{vs:List (κ×DM)}(r:KV kvs vs)(k:κ):RelO (f9 kvs k) (valueAt vs k):=by
 unfold KV at r
 induction r with
 |nil=>exact Hd
 | @cons p q ps qs h t ih=>
  obtain⟨h1,h2⟩:=h;by_cases e:p.1=k
  ·have e':q.1=k:=h1.symm.trans e;have b:valueAt (q::qs) k=some q.2:=by simp[valueAt,FP,e']
   rw[fS e,b];exact h2
  ·have e':¬q.1=k:=fun z=>e<|h1.trans z;have b:valueAt (q::qs) k=valueAt qs k:=by simp[valueAt,FP,e']
   rw[fT e,b];exact ih
end
theorem yr{P:E4}{w:E8}{k:Key}{u:DM}(r:RelV (kV k) u):(mixKind P w).is k u=true:=by
 cases k with
 |inl i=>obtain⟨t,e⟩:=(show ∃t,u=HD i t from r);subst e;exact mL P w i t
 |inr x=>obtain⟨t,e⟩:=(show ∃t,u=Lu x t from r);subst e;exact mM P w x t
theorem kY{P:E4}{w:E8}:∀{ks:List Key}{us:List DM},Vals (ks.map kV) us->ItemsAre (mixKind P w) ks us
 | [],_,r=>by rw[Lg]at r;cases r;exact .nil
 |k::ks,_,r=>by
  rw[EY]at r;cases r with
  |cons h t=>exact .cons (yr h)<|kY t
section
variable{X:Cx}{pins:List (Addr×Obj)}{σ:St}{H:Hp}{s:DN}{a:Addr}{y v:V}{u r:DM}{o:Option V}{A:EB}{E:DM->DN->Prop}
theorem Inv.big(I:Inv X pins σ H s):sysModules<s.heap.objs.size:=by
 have h:mainGlobals<s.heap.objs.size:=(I.mod.glob.keeps I.bk).lt;exact JY (by decide) h
theorem pT{h':Heap}{t':Nat}{ob:HO}(I:Inv X pins σ H s)(mu:Ai (H a))(hs:E6 a s.heap h')(he:∃q,h'.get? a=some q)(new:ObjOk X.prog X.w (cn H a ob) h' a ob):
  Inv X pins σ (cn H a ob) {s with heap:=h',toks:=t'}:=
 I.write (x:=a) (e:=a) mu (.inl rfl) (fun b q hb z=>(hs.2 b hb).trans z) he new
end
def tL(i:Expr):Prop:=∀ov iv,subscripted i false ov iv=operate [ov,iv] (getItem ov iv)
theorem pU{prog:E4}{w:E8}{A:EB}{E:DM->DN->Prop}{s:DN}{env:Env}{value slice:Expr}{pos:Pos}{T id:String}{Q:DM->DN->Prop}
  (hl:typeLookup (.type T) "__getitem__"=pure (some<|.builtin id)) (hs:tL slice)
  (h:wpAny (model prog w) A (eval value env) (fun o s₁=>wpAny (model prog w) A (eval slice env) (fun i s₂=>s₂.TypeIs o T/\wpAny (model prog w) A (getItem o i) Q E s₂) E s₁) E s):
  wpAny (model prog w) A (eval (.Subscript value slice pos) env) Q E s:=by
 refine KY<|F5 h (fun o s₁ h₁=>F5 h₁ (fun i s₂ h₂=>?_) fun _ _ x=>x) fun _ _ x=>x;obtain⟨hT,h₂⟩:=h₂;unfold subscriptTail;refine DF ?_;rw[getitemInPython_of_ne hT.not_modules];refine DF<|IJ hT hl ?_;have fin:wpAny (model prog w) A (subscripted slice false o i) (fun r s₃=>wpAny (model prog w) A (letTemporaryGo value o r>>=fun _=>pure r) Q E s₃) E s₂:=by
  rw[hs o i];exact wpAny_operating<|F5 h₂ (fun r s₃ h₃=>DF<|wpAny_letTemporaryGo<|DL h₃) fun _ _ x=>x
 first
  |exact DL<|DF fin
  |exact DF<|DL<|DF fin
  |exact DF fin
end L2
namespace Att
open PySem PySem.W PySem.Calls PyProof.Rows
theorem j9{P:NC}{h:Heap}:∀(ns:List Int)(vs:List DM),WellAll P h vs (ns.map NO)->Lf vs ns:=by
 intro ns
 induction ns with
 |nil=>
  intro vs w;rw[Lg]at w;cases w;exact .nil
 |cons n ns ih=>
  intro vs w;rw[EY]at w;cases w with
  |cons a b=>
   cases a;exact .cons _ _<|ih _ b
theorem rg{l:Iy}{n:Nat}(hn:l.most=some n){P:NC}{h:Heap}{args:List WData}{vals:List DM}
  (hpre:l.row.toRowW.claim.pre args=true) (hwl:WellAll P h vals args):
  ∃a vs ns,vals=[F1 a]/\args=[WData.list (ns.map NO)]/\h.get? a=some {cls:=.type "list",data:=.seq vs.toArray}/\Lf vs ns/\ns.length<=n:=by
 have hsh:WShape.hasAll [] args [.list .int]=true:=(pre_splitW hpre).1;have hc:l.pre.holds [] {args:=args}=true:=(pre_splitW hpre).2;obtain⟨d,r,rfl,h1,h2⟩:=hasAllW_cons hsh;obtain rfl:=hasAllW_nil h2;obtain⟨xs,rfl,h3⟩:=hasW_list h1;obtain⟨ns,rfl⟩:=items_int h3;have hlen:ns.length<=n:=by
  unfold OpenLaw.pre at hc;have h4:(WTm.not<|.lt (.lit<|.int (n:Int))<|.len<|.arg 0).holds [] {args:=[.list (ns.map .int)]}=true:=by
   have h4:=(holds_andW hc).1;rw[hn]at h4;exact h4
  have h5:=condW_of h4<|w_not<|w_lt w_lit<|w_len_list<|w_arg rfl;rw[El]at h5;refine Nat.le_of_not_lt fun q=>?_;have q':(n:Int)<((ns.length:Nat):Int):=by omega
  first
   |(rw[decide_eq_true q']at h5;exact absurd h5 (by decide))
   |(simp at h5;omega)
 cases hwl with
 |cons w1 w2=>
  cases w2;cases w1 with
  |list ho hall=>exact⟨_,_,ns,rfl,rfl,ho,j9 ns _ hall,hlen⟩
theorem rh(l:Iy)(args:List WData):l.row.toRowW.claim.post args (.bool true) args=true:=
 postW_of (r:=l.row.toRowW) (X:=(true==true))
  (show ND [] (.bool true) .bool=true by first|rfl|decide|simp[ND,WShape.arms,WShape.armsAll])
  (show(WTm.eq .res<|.lit<|.bool true).value [] {args:=args,res:=some<|.bool true,after:=args}=some (.bool<|true==true)from w_eq_bool (w_res rfl) w_lit) rfl
theorem attach_call{l:Iy}{n:Nat}{q:E4}{loose:List Str}{XP:(Str->Option DM)->Heap->Prop}{YP:E8->Heap->Prop}{d:DefRec}
  (hn:l.most=some n) (hdf:d.params.defaults=[])
  (call:∀(w:E8) (s₀ s₁:DN) (mg mb:Str->Option DM) (fa:Addr) (o:Obj) (pm cd doc:DM) (a:Addr) (vs:List DM) (ns:List Int),
   Ground q loose [] XP w s₀ mg mb s₁.heap->YP w s₁.heap->
   s₁.heap.get? fa=some o->o.data=.func (docDef d.name d.params d.body d.scope pm cd doc)->s₁.heap.CodeRec cd d.name->mg d.name=some (.ref fa)->
   s₁.heap.get? a=some {cls:=.type "list",data:=.seq vs.toArray}->Lf vs ns->ns.length<=n->s₁.gens= #[]->
   codeAny (model l.prog w) callerA (.call (.ref fa) ⟨[.ref a],[]⟩) (fun r s'=>r=.ok (.ret (.bool true))/\OldK s₁.heap s'.heap/\s'.os=s₁.os/\Jn s'.gens) s₁):
  LZ q loose XP YP l.row.toRowW d [] (fun f vs=>M6 f vs):=by
 intro w s₀ s₁ mg mb G Y fa o pm cd doc dV kV ho hd hcd hD hmg hg args vals as hpre hlay hrd hwl hlo;obtain rfl:dV=.none:=Dflts.none hD hdf;obtain rfl:kV=.none:=Dflts.noKw hD;obtain⟨a,vs,ns,rfl,rfl,hobj,hints,hlen⟩:=rg hn hpre hwl;refine enter_call<|IX (call w s₀ s₁ mg mb fa o pm cd doc a vs ns G Y ho (fd_plain hd) hcd hmg hobj hints hlen hg) fun r s' hq=>?_;obtain⟨rfl,h2,h3,h4⟩:=hq;exact⟨.inl ⟨.bool true,.bool true,[],rfl,fun _=>rfl,.bool true,rh l _,fun _=>⟨Hn,fun _ hm=>(nomatch hm)⟩⟩,h2,h3,h4⟩
end Att
namespace L2
open PySem PySem.Spec PyProof.Rows
theorem iK:∀{vs:List DM}{ns:List Int},Lf vs ns->Vals (ns.map Hr) vs
 |_,_,.nil=>.nil
 |_,_,.cons n t h=>.cons ⟨t,rfl⟩<|iK h
def zh(H:Hp):Prop:=∀b,H b=none\/∃o xs,H b=some (.frz o<|.lst xs)
theorem tM{P:E4}{w:E8}{K:DJ}{mg mb:Str->Option DM}{CX:CXT}{k:Nat}{fa a:Addr}{fd:Ee}{x:Str}{sp:Sp}{s₁:DN}{vs:List DM}{ns:List Int}
  (KX:K.In s₁.heap) (hns:s₁.heap.Ns mainGlobals mg) (hb:s₁.heap.Ns builtinsNs mb) (hbb:∀x:Str,x≠"__name__"->mb x=bootBuiltins x) (hlim:s₁.heap.NoLimit) (hg:s₁.gens= #[])
  (ha:s₁.heap.get? a=some {cls:=.type "list",data:=.seq vs.toArray}) (hi:Lf vs ns) (hl:ns.length<=sizeLine) (hr:Room k callerA)
  (F:∀base:Heap,K.In base->base.Ns mainGlobals mg->FnOk P w K mg base CX k fa fd [x] sp) (hbind:∀(s:DN)(u:DM),Le s fd ⟨[u],[]⟩ [(x,u)])
  (hsp:∀H:Hp,zh H->SqL K H a (ns.map Hr)->sp [.ref a] H (fun v _=>v=.bl true) fun _ _ _=>False)
  (hCX:∀H e s',CX [] H s₁ (fun _ _ _=>False) e s'->False):
  codeAny (model P w) callerA (.call (.ref fa) ⟨[.ref a],[]⟩) (fun r s'=>r=.ok (.ret<|.bool true)/\OldK s₁.heap s'.heap/\s'.os=s₁.os/\Jn s'.gens) s₁:=by
 have rv:=iK hi;have lenV:=hi.length;have core:∀H:Hp,zh H->SqL K H a (ns.map Hr)->HOk P w H s₁.heap->(∀b,H b≠none->b=a)->(H a≠none->K.lookup a=none)->
   codeAny (model P w) callerA (.call (.ref fa) ⟨[.ref a],[]⟩) (fun r s'=>r=.ok (.ret<|.bool true)/\OldK s₁.heap s'.heap/\s'.os=s₁.os/\Jn s'.gens) s₁:=by
  intro H hO hS hok hA hK;have base_of:∀{b:Addr}{o:Obj},s₁.heap.get? b=some o->H b=none->(lD s₁.heap H).get? b=some o:=fun e n=>t9 e n;have noA:∀{b:Addr}{o:Obj}{es:Array GC}{ep:Nat},s₁.heap.get? b=some o->o.data=.dict es ep->H b=none:=fun{b o es ep}e d=>by
   cases q:H b with
   |none=>rfl
   |some u=>
    have e':b=a:=hA b (by rw[q];simp);subst e';rw[ha]at e;cases e;have d':Ku vs.toArray _=Data.dict es ep:=d;cases d'
  have nsK:∀{b:Addr}{m:Str->Option DM},s₁.heap.Ns b m->(lD s₁.heap H).Ns b m:=fun{b m}⟨o,es,ep,e,d,r⟩=>⟨o,es,ep,base_of e<|noA e d,d,r⟩
  have hKb:K.In (lD s₁.heap H):=fun b o e=>base_of (KX b o e) (by
   cases q:H b with
   |none=>rfl
   |some u=>
    have e':b=a:=hA b (by rw[q];simp);subst e';rw[hK (by rw[q];simp)]at e;cases e)
  have hM:Mod K mg (lD s₁.heap H):=⟨hKb,nsK hns,⟨mb,nsK hb,hbb⟩,let ⟨mc,h1,h2⟩:=hlim;⟨mc,nsK h1,h2⟩⟩
  have e0:Env0 P w K mg (lD s₁.heap H) callerA [] s₁ H:=⟨rfl,hM,fun b o e=>wq e,Nat.le_of_eq<|qX _ _,trivial,fun b hb=>absurd (show b∈([]:List Addr)from hb) (by simp),hok,.of_eq hg⟩
  refine IX ((F _ hKb<|nsK hns).run callerA [] s₁ H ⟨[.ref a],[]⟩ [.ref a] [.ref a] _ _ hr e0 (hbind s₁<|.ref a) (.cons rfl .nil) (hsp H hO hS)) fun r s' h=>?_;cases r with
  |error e=>exact(hCX H e s' h).elim
  |ok fl=>
   cases fl with
   |next=>exact Ha h
   |brk=>exact Ha h
   |cont=>exact Ha h
   |ret u=>
    obtain⟨v,H',os,bare,un,hok',r',q⟩:=h;have q':v=.bl true:=q;subst q';obtain rfl:u=M0 true:=r';refine⟨rfl,OldK.of_keep fun b o e=>?_,os,bare⟩;cases q:H b with
    |none=>exact un.keep b o e q (by intro z;exact absurd (show b∈([]:List Addr)from z) (by simp)) (by simp)
    |some u=>
     rcases hO b with z|⟨ob,xs,z⟩
     ·rw[q]at z;cases z
     ·have z2:=un.frzs b ob _ z;obtain⟨e1,_⟩:=hok b _ z;obtain⟨e2,_⟩:=hok' b _ z2;rw[e]at e1;cases e1;exact e2
 cases hk:K.lookup a with
 |some o=>
  have e:=KX a o hk;rw[ha]at e;cases e;refine core (fun _=>none) (fun _=>.inl rfl) (.inr ⟨_,vs.toArray,_,hk,rfl,rfl,rfl,by rw[DY,lenV];exact hl,by simpa using rv⟩) (fun b u z=>by have z':(none:Option HO)=some u:=z;cases z') (fun b z=>absurd rfl z) fun z=>absurd rfl z
 |none=>
  refine core (fun b=>if b=a then some (.frz {cls:=.type "list",data:=.seq vs.toArray}<|.lst<|ns.map Hr)else none) (fun b=>?_) (.inl<|.inr ⟨{cls:=.type "list",data:=.seq vs.toArray},if_pos rfl⟩) (fun b u z=>?_) (fun b z=>?_) fun _=>hk
  ·by_cases hb:b=a;·exact .inr ⟨_,_,if_pos hb⟩
   ·exact .inl<|if_neg hb
  ·by_cases hb:b=a
   ·have z':=(if_pos hb).symm.trans z;cases z';subst hb;exact⟨ha,by rw[El];exact hl,vs,_,rv,ha⟩
   ·have z':=(if_neg hb).symm.trans z;cases z'
  ·by_cases hb:b=a;·exact hb
   ·exact absurd (if_neg hb) z
theorem walk_of{l:Iy}{n k:Nat}{q:E4}{loose:List Str}{XP:(Str->Option DM)->Heap->Prop}{YP:E8->Heap->Prop}{d:DefRec}{K:NC->DJ}{CX:E8->CXT}{sp:E8->Sp}{x:Str}
  (hn:l.most=some n) (hn2:n<=sizeLine) (hdf:d.params.defaults=[]) (hr:Room k callerA)
  (hY:∀(w:E8)(h:Heap),YP w h->(K w.params).In h)
  (F:∀(w:E8) (mg:Str->Option DM) (fa:Addr) (h:Heap),(K w.params).In h->h.Ns mainGlobals mg->mg d.name=some (.ref fa)->
   ∃fd:Ee,(∀(s:DN)(u:DM),Le s fd ⟨[u],[]⟩ [(x,u)])/\
    ∀base:Heap,(K w.params).In base->base.Ns mainGlobals mg->FnOk l.prog w (K w.params) mg base (CX w) k fa fd [x] (sp w))
  (hsp:∀(w:E8)(H:Hp)(a:Addr)(ns:List Int),ns.length<=n->zh H->SqL (K w.params) H a (ns.map Hr)->sp w [.ref a] H (fun v _=>v=.bl true) fun _ _ _=>False)
  (hCX:∀(w:E8)(H:Hp)(s:DN)(e:DM)(s':DN),CX w [] H s (fun _ _ _=>False) e s'->False):
  LZ q loose XP YP l.row.toRowW d [] (fun f vs=>M6 f vs):=by
 refine Att.attach_call hn hdf fun w s₀ s₁ mg mb fa o pm cd doc a vs ns G Y ho hd hcd hmg hobj hints hlen hg=>?_;have KX:=hY w _ Y;obtain⟨fd,hb,hF⟩:=F w mg fa _ KX G.T.g hmg;exact tM KX G.T.g G.T.b G.T.builtins G.T.nolimit hg hobj hints (FO hlen hn2) hr hF hb (fun H hO hS=>hsp w H a ns hlen hO hS) fun H e s'=>hCX w H s₁ e s'
def defArgs(s:Stmt):Arguments:=match s with
 | .FunctionDef _ a _ _ _ _ _ _ _ _=>a
 |_=>{posonlyargs:=[],args:=[],vararg:=none,kwonlyargs:=[],kw_defaults:=[],kwarg:=none,defaults:=[]}
def defBody(s:Stmt):List Stmt:=match s with
 | .FunctionDef _ _ b _ _ _ _ _ _ _=>b
 |_=>[]
def defScope(s:Stmt):Hi:=match s with
 | .FunctionDef _ _ _ _ _ _ sc _ _ _=>sc
 |_=>{kind:=.function,names:=[],isGenerator:=false,isCoroutine:=false}
abbrev CX0:CXT:=fun _ _ _ _ _ _=>False
abbrev E0:XK:=fun _ _ _=>False
theorem AA{X:Cx}:oC CX0 X E0:=fun _ _ _ _ _ _ _ h=>h.elim
structure Fun(K:DJ)(x qual:Str)(st:Stmt)(f:Addr)(fd:Ee):Prop where
 ex:∃(oc:DM)(od:Option Addr)(kV doc pm:DM)(an:Option Addr)(cdv ct:DM)(osl:Array (Option DM)),
  fd=Gn x qual (defArgs st) (defBody st) (defScope st) .none kV doc pm an cdv ct/\K.lookup f=some ⟨oc,od,.func fd,osl⟩/\I0 K cdv qual=true
 kp:Hv K (.ref f)=true
section
variable{P:E4}{w:E8}{K:DJ}{mg:Str->Option DM}{base:Heap}
theorem Fun.ok{x qual:Str}{st:Stmt}{f:Addr}{fd:Ee}{N ps:List Str}{k:Nat}{sp:Sp}(F:Fun K x qual st f fd)(S:FnScope N ps (defScope st))(len:∀vs H Q E,sp vs H Q E->vs.length=ps.length)
  (hbody:∀(cdv:DM) (A:EB) (outer:List Env) (s:DN) (H:Hp) (vs:List V) (Q:VK) (E:XK),Room k (A.deeper<|envOfC qual (defScope st) s.heap.objs.size f cdv)->sp vs H Q E->
   ∃t,PSs (r9 CX0 P w K mg base N qual (defScope st) f cdv A outer s H E).nox (defBody st) t/\t {nx:=fun _ H'=>Q .non H',rt:=Q} (start N vs) H):FnOk P w K mg base CX0 (k+1) f fd ps sp:=by
 obtain⟨oc,od,kV,doc,pm,an,cdv,ct,osl,rfl,lk,hcd⟩:=F.ex;refine Av lk hcd S len fun A outer s H vs Q E hr hsp=>?_;obtain⟨t,h,q⟩:=hbody cdv A outer s H vs Q E hr hsp;exact⟨t,h.nox,q⟩
theorem Fun.binds{x qual:Str}{st:Stmt}{f:Addr}{fd:Ee}{ps:List Str}(F:Fun K x qual st f fd)
  (h:∀(kV doc pm:DM)(an:Option Addr)(cdv ct:DM)(us:List DM),us.length=ps.length->bindArgs (Gn x qual (defArgs st) (defBody st) (defScope st) .none kV doc pm an cdv ct) ⟨us,[]⟩=pure (ps.zip us)):Binds K fd ps []:=by
 obtain⟨oc,od,kV,doc,pm,an,cdv,ct,osl,rfl,lk,hcd⟩:=F.ex;exact .all<|h kV doc pm an cdv ct
theorem oG{x qual:Str}{st:Stmt}{f:Addr}{oc:DM}{od an:Option Addr}{osl:Array (Option DM)}{kV doc pm cdv ct:DM}(l:K.lookup f=some ⟨oc,od,.func<|Gn x qual (defArgs st) (defBody st) (defScope st) .none kV doc pm an cdv ct,osl⟩)
  (c:I0 K cdv qual=true) (k:Hv K (.ref f)=true):Fun K x qual st f (Gn x qual (defArgs st) (defBody st) (defScope st) .none kV doc pm an cdv ct):=⟨⟨oc,od,kV,doc,pm,an,cdv,ct,osl,rfl,l,c⟩,k⟩
end
section
variable{X:Cx}
theorem pv(i:Nat){x:Str}{pos:Pos}(hN:X.N[i]? =some x:=by rfl)(hv:Vis X.env.scope x:=by first|exact MW rfl|exact M7 (MW rfl)|exact M7<|M7 rfl)(hd:(x==("__debug__" :Str))=false:=by decide)
  (hcd:(x==("__classdict__" :Str))=false:=by decide):PE X (.Name x pos) (gW i):=yN hN hv hd hcd
end
def Same(H H':Hp):Prop:=∀b o,H b=some o->H' b=some o
theorem Same.refl(H:Hp):Same H H:=fun _ _ h=>h
theorem Same.trans{H H1 H2:Hp}(a:Same H H1)(b:Same H1 H2):Same H H2:=fun c o h=>b c o<|a c o h
theorem Same.seq{K:DJ}{H H':Hp}{a:Addr}{xs:List V}(e:Same H H')(h:SqL K H a xs):SqL K H' a xs:=by
 rcases h with(h|⟨o,h⟩)|h;·exact .inl<|.inl<|e _ _ h
 ·exact .inl<|.inr ⟨o,e _ _ h⟩
 ·exact .inr h
end L2
set_option maxHeartbeats 4000000
namespace L2
open PySem PySem.Spec PyProof.Rows
abbrev sOf(l:List Nat):Str:=⟨l.toArray⟩
theorem cG(l:List Nat):(sOf l).length=l.length:=by simp[NA,sOf]
theorem pV(l:List Nat):(sOf l).cps.toList=l:=by simp[sOf]
theorem jA(a b:List Nat):sOf a++sOf b=sOf (a++b):=by
 apply PySem.Str.ext';rw[PySem.Str.cps_append];simp[sOf]
theorem pW{a b:List Nat}(h:sOf a=sOf b):a=b:=by
 have:=congrArg (fun x=>x.cps.toList) h;simpa [sOf] using this
theorem tN(x:Str):x=sOf x.cps.toList:=by cases x;simp[sOf]
def DictK(K:DJ)(w:E8)(a:Addr)(kvs:List (Key×V)):Prop:=
 kvs.length<=1000/\(a==sysModules)=false/\(kvs.map (·.1)).Nodup/\∃(es:Array GC)(ep:Nat),K.lookup a=some {cls:=.type "dict",data:=.dict es ep}/\
  Paired (fun(p:Key×V)(e:GC)=>fP p.1 e.key=true/\e.hash=sZ w p.1/\RelV p.2 e.val) kvs es.toList
theorem mV{P:E4}{w:E8}{kvs:List (Key×V)}{es:List GC}(r:Paired (fun(p:Key×V)(e:GC)=>fP p.1 e.key=true/\e.hash=sZ w p.1/\RelV p.2 e.val) kvs es):
  ∀e∈es,∃k,fP k e.key=true/\e.hash=sZ w k:=by
 induction r with
 |nil=>intro e h;cases h
 | @cons p e ps es h t ih=>
  intro e' h';rcases E1.mp h' with rfl|h'
  ·exact⟨p.1,h.1,h.2.1⟩
  ·exact ih e' h'
theorem lL{P:E4}{w:E8}{kvs:List (Key×V)}{es:List GC}(r:Paired (fun(p:Key×V)(e:GC)=>fP p.1 e.key=true/\e.hash=sZ w p.1/\RelV p.2 e.val) kvs es):
  ∃vs,KV kvs vs/\Pairs (mixKind P w) es vs/\vs.map (·.1)=kvs.map (·.1):=by
 induction r with
 |nil=>exact⟨[],.nil,.nil,rfl⟩
 | @cons p e ps es h t ih=>
  obtain⟨vs,h1,h2,h3⟩:=ih;exact⟨(p.1,e.val)::vs,.cons ⟨rfl,h.2.2⟩ h1,.cons h.1 rfl h2,by simp[h3]⟩
theorem DictK.of{P:E4}{w:E8}{K:DJ}{a:Addr}{kvs:List (Key×V)}{h:Heap}(d:DictK K w a kvs)(x:K.In h):(a==sysModules)=false/\∃vs,KV kvs vs/\h.DictOf (mixKind P w) a vs:=by
 obtain⟨hz,hs,nd,es,ep,lk,r⟩:=d;obtain⟨vs,h1,h2,h3⟩:=lL (P:=P) r;refine⟨hs,vs,h1,_,es,ep,x _ _ lk,⟨rfl,rfl,rfl⟩,rfl,fun e he=>mV (P:=P) r e (by simpa using he),h2,by rw[h3];exact nd⟩
section
variable{X:Cx}{o i e:Expr}{pos:Pos}{td ty:TE}
def jB(K:DJ)(w:E8)(td ty:TE):TE:=fun σ H Q=>td σ H fun x H1=>ty σ H1 fun y H2=>∃a kvs k v,x=.ref a/\DictK K w a kvs/\y=kV k/\f9 kvs k=some v/\Q v H2
theorem tO(ho:PE X o td)(hi:PE X i ty)(hs:tL i):PE X (.Subscript o i pos) (jB X.K X.w td ty):=by
 intro pins s σ H Q I h;refine pU Jh.lookup hs<|bG (ho pins s σ H _ I h) fun u s1 zz=>?_;obtain⟨x,H1,I1,rx,q1⟩:=zz;refine bG (hi pins s1 σ H1 _ I1 q1) fun iv s2 zz=>?_;obtain⟨y,H2,I2,ry,a,kvs,k,v,ex,dk,ey,ev,q2⟩:=zz;subst ex ey;obtain rfl:u=F1 a:=rx;obtain⟨hd,vs,rel,dd⟩:=dk.of (P:=X.prog) I2.kIn;refine⟨dd.typeIs,?_⟩;obtain⟨w',hw,rw'⟩:=N2 (v:=v) (o:=valueAt vs k) (by rw[<-ev];exact rel.val k);exact wpAny_getItem_of (yr ry) dd.mapOf hw ⟨v,H2,I2.tok _,rw',q2⟩
end
section
variable{X:Cx}
theorem oH:gX X (binaryOp .Mult) (fun x y H Q=>∃c n,x=.str (sOf [c])/\y=.int n/\0<=n/\n<=100000/\Q (.str<|sOf<|Hw n.toNat c) H):=by
 intro pins s σ H x y v u Q I rx ry h;obtain⟨c,n,rfl,rfl,h0,h1,q⟩:=h;obtain⟨t,rfl⟩:=rx;obtain⟨t',rfl⟩:=ry;have hl:(sOf [c]).length=1:=cG [c];refine SB.mul ?_ fun t' k=>?_
 ·refine⟨?_,fun _ _=>?_,fun _ _=>?_⟩
  ·have e1:decide (n< -(2^63:Int))=false:=decide_eq_false (by omega);have e2:decide (n≥2^63)=false:=decide_eq_false (by omega);rw[e1,e2];rfl
  ·rw[hl];have h2:1<=n:=by omega
   have:(1:Int)<=(2^63-1)/n:=(Int.le_ediv_iff_mul_le (by omega)).mpr (by omega);omega
  ·rw[hl];unfold Nz;have:=F3;simp;omega
 ·have e:NI (sOf [c]) n=sOf (Hw n.toNat c):=by
   rw[tN<|NI (sOf [c]) n];show sOf ((NI ⟨#[c]⟩ n).cps.toList)=_;rw[mul_one_list]
  exact⟨.str _,H,I.tok _,⟨t',rfl⟩,by rw[e];exact q⟩
end
section
variable{X:Cx}
def ja(l:List Nat)(lo hi:Option Int):List Nat:=(l.drop<|HT.sIx l.length 0 lo).take (HT.sIx l.length l.length hi-HT.sIx l.length 0 lo)
theorem jC(lo hi:Option Int)(n:Nat):FV lo hi 1 n=sliceRange ((HT.sIx n 0 lo:Nat):Int) ((HT.sIx n n hi:Nat):Int) 1:=by
 unfold FV;have e1:(match lo with|none=>(0:Int)|some i=>max 0 (min (if i<0 then i+(n:Int)else i) n))=((HT.sIx n 0 lo:Nat):Int):=by
  cases lo with
  |none=>simp[HT.sIx]
  |some i=>simp only[HT.sIx];by_cases h:i<0<;>simp only[h,if_true,if_false]<;>omega
 have e2:(match hi with|none=>(n:Int)|some i=>max 0 (min (if i<0 then i+(n:Int)else i) n))=((HT.sIx n n hi:Nat):Int):=by
  cases hi with
  |none=>simp[HT.sIx]
  |some i=>simp only[HT.sIx];by_cases h:i<0<;>simp only[h,if_true,if_false]<;>omega
 simp only[show(1:Int)>0 by decide,if_true];rw[<-e1,<-e2];cases lo<;>cases hi<;>rfl
theorem rj(l:List Nat)(lo hi:Option Int):Lz (sOf l) lo hi=sOf (ja l lo hi):=by
 have hn:(sOf l).length=l.length:=cG l;have hk:(FV lo hi 1 l.length).filterMap ((sOf l).cps[·]?)=ja l lo hi:=by
  rw[jC,Kt,pick_run];simp[ja]
 have hlen:(FV lo hi 1 l.length).length=(ja l lo hi).length:=by
  rw[jC,Kt];have h1:=HT.sIx_le l.length 0 (Eh _) lo;have h2:=HT.sIx_le l.length l.length (DQ _) hi;simp[ja];omega
 unfold Lz;rw[hn];split
 ·rename_i h;have h:(FV lo hi 1 l.length).length=l.length:=by simpa using h
  have hl:=hlen.symm.trans h;have e:ja l lo hi=l:=by
   have h3:(ja l lo hi).length<=(l.drop<|HT.sIx l.length 0 lo).length:=by unfold ja;simp;omega
   have h4:HT.sIx l.length 0 lo=0\/l.length=0:=by
    rw[Ly]at h3;omega
   rcases h4 with h4|h4
   ·unfold ja at hl ⊢;rw[h4]at hl ⊢;rw[J6]at hl ⊢;rw[Im]at hl;exact He (by omega)
   ·have:l=[]:=GO.mp h4;subst this;simp[ja]
  rw[e]
 ·rw[hk]
theorem tP:Bw X (fun x lo hi H Q=>∃l,x=.str (sOf l)/\l.length<=sizeLine/\Q (.str<|sOf<|ja l lo hi) H):=by
 intro pins s σ H x v vl vu lo hi sl Q I rx hs pl pu h;obtain⟨l,rfl,hz,q⟩:=h;obtain⟨t,rfl⟩:=rx;obtain⟨a1,rfl,e1⟩:∃a:Option (Int×Tok),vl=partValue a/\a.map (·.1)=lo:=by
  cases pl with
  |none=>exact⟨none,rfl,rfl⟩
  |int i t=>exact⟨some (i,t),rfl,rfl⟩
 obtain⟨a2,rfl,e2⟩:∃a:Option (Int×Tok),vu=partValue a/\a.map (·.1)=hi:=by
  cases pu with
  |none=>exact⟨none,rfl,rfl⟩
  |int i t=>exact⟨some (i,t),rfl,rfl⟩
 have hle:(Lz (sOf l) lo hi).length<=sizeLine:=FO (Txt.slice_le _ _ _) (by rw[cG];exact hz);refine⟨"str",_,PySem.F.slot_str_getitem.lookup,M5 _ _ _,wpAny_getItem_str_slice (l:=a1) (u:=a2) (st:=none) hs rfl ?_⟩;subst e1 e2;refine post_val_or_str ⟨hle,fun t' k=>⟨.str _,H,I.tok _,⟨t',rfl⟩,?_⟩⟩;have:=rj l (a1.map (·.1)) (a2.map (·.1));unfold Lz at this;show Q (.str (if _ then _ else _)) H;exact this▸q
theorem tQ(hc:X.calm=true):Aw X "str.index" (fun x xs H Q=>∃a b,x=.str a/\xs=[.str b]/\0<=J7 a b/\Q (.int<|J7 a b) H):=by
 intro pins s σ H x xs v us Q I rx rs h;obtain⟨a,b,rfl,rfl,h0,q⟩:=h;obtain⟨t,rfl⟩:=rx;obtain⟨u,rfl,t',rfl⟩:=fh rs;refine index_or (I.ok.hd hc) (fun e=>?_) fun _ _=>⟨.int _,H,I.tok _,⟨_,rfl⟩,q⟩
 omega
theorem oI{ys:List (List Nat)}:∀{us:List DM},Vals (ys.map fun y=>JR<|sOf y) us->StrsAre us (ys.map sOf):=by
 induction ys with
 |nil=>intro us r;cases r;exact .nil
 |cons y ys ih=>
  intro us r;cases r with
  |cons r1 r2=>
   obtain⟨t,e⟩:=r1;subst e;exact .cons _ t<|ih r2
theorem oJ(ys:List (List Nat)):Txt.join (sOf []) (ys.map sOf)=sOf ys.flatten:=by
 have key:∀(r:List (List Nat))(acc:List Nat),(r.map sOf).foldl (fun acc p=>acc++(sOf []).cps++p.cps) acc.toArray=(acc++r.flatten).toArray:=by
  intro r
  induction r with
  |nil=>intro acc;simp
  |cons a r ih=>
   intro acc;rw[EY,IK,List.flatten_cons,<-Eb,<-ih (acc++a)];simp[sOf]
 cases ys with
 |nil=>rfl
 |cons a r=>
  show Str.mk (((r.map sOf)).foldl (fun acc p=>acc++(sOf []).cps++p.cps) a.toArray)=_;rw[key];rfl
theorem wI:Aw X "str.join" (fun x xs H Q=>∃(p:Addr)(ys:List (List Nat)),x=.str (sOf [])/\xs=[.ref p]/\SqL X.K H p (ys.map fun y=>JR<|sOf y)/\ys.flatten.length<=100000/\Q (.str<|sOf ys.flatten) H):=by
 intro pins s σ H x xs v us Q I rx rs h;obtain⟨p,ys,rfl,rfl,hp,hl,q⟩:=h;obtain⟨t,rfl⟩:=rx;obtain⟨u,rfl,r1⟩:=fh rs;cases r1;obtain⟨its,r,pl,hz⟩:=I.list hp;refine join_list pl.isList (by simpa using oI r) ?_ fun t' k=>⟨.str _,H,I.tok _,⟨t',rfl⟩,by rw[oJ];exact q⟩
 have e:((ys.map sOf).map (·.length)).sum=ys.flatten.length:=by
  rw[FX,List.length_flatten];congr 1
  all_goals exact KC fun y _=>cG y
 have e2:(sOf []).length=0:=cG [];rw[e,e2];omega
theorem mW:dE X (.builtin "isinstance") (fun xs H Q=>∃x T t b,xs=[x,.ty T]/\TyOf X.K H x t/\Hu X.K t (.type T)=some b/\Q (.bl b) H):=by
 intro pins s σ H xs us Q I r h;obtain⟨x,T,t,b,rfl,ty,e,q⟩:=h;obtain⟨u,w',rfl,rx,rT⟩:=pQ r;obtain rfl:w'=.type T:=rT;exact r6 I rx ty e fun tk=>⟨.bl b,H,I.tok _,rfl,q⟩
def CH(l:List Nat):It:=⟨fun i _=>i<l.length,fun i H x H'=>H'=H/\∃c,l[i]? =some c/\x=.str (sOf [c]),fun i _=>l.length<=i⟩
def AB(tl:TE):TI:=fun σ H R=>tl σ H fun x H1=>∃l,x=.str (sOf l)/\R (CH l) H1
end
theorem tR{P:E4}{w:E8}{K:DJ}{tg:Expr}(l:List Nat)(it:Addr)(ty:String)(t:Tok)(hty:ty="str_ascii_iterator"\/ty="str_iterator")
  (W:∀A':EB,A'.handled=none->Walks P w A' it [it] [it] l.length (SignAt<|sOf l) (fun i h=>h.IsStrIter it ty (sOf l) t i)):
  Turn P w K tg (CH l) [it] it (fun i h=>i<=l.length/\h.IsStrIter it ty (sOf l) t i) where
 mem:=by simp
 obj:=fun i h st b hb=>by
  have e:b=it:=by simpa using hb
  subst e;obtain⟨_,o,e,c,d⟩:=st;exact⟨o,e,fun v z=>by rw[d]at z;cases z⟩
 keep:=fun i h h' st k=>⟨st.1,by obtain⟨o,e,r⟩:=st.2;exact⟨o,k it (by simp) o e,r⟩⟩
 item:=by
  intro X hP hw hK hc i pins s σ H E I hf st hg;subst hP hw hK;obtain⟨f0,f1,f2,f3,f4,f5⟩:=hf it (by simp);refine(W X.A<|I.ok.hd hc).item i s _ _ hg st.2 fun v h' tk hv st' kk=>?_;obtain⟨c,u,hc',rfl⟩:=hv;have I1:Inv X pins σ H {s with heap:=h',toks:=tk}:=I.turned (fun b o hb e=>kk b o (by simpa using hb) e) f0 f1 f3 f4 f5;obtain⟨o,e,c1,d⟩:=id st';refine⟨_,rfl,kS (s:={s with heap:=h',toks:=tk}) (n:=ty) e c1 d (by rcases hty with rfl|rfl<;>decide) ⟨.str<|sOf [c],H,I1,⟨u,rfl⟩,⟨rfl,c,?_,rfl⟩,⟨hg,st'⟩,fun b hb=>(hf b hb).1⟩⟩;simpa [sOf] using hc'
 done:=by
  intro X hP hw hK hc i pins s σ H E I hf st hg;subst hP hw hK;obtain⟨f0,f1,f2,f3,f4,f5⟩:=hf it (by simp);have e:i=l.length:=Nat.le_antisymm st.1 hg;subst e;exact(W X.A<|I.ok.hd hc).done s _ _ st.2 fun h' tk kk=>⟨rfl,I.turned (fun b o hb e=>kk b o (by simpa using hb) e) f0 f1 f3 f4 f5⟩
 self:=fun A i s Q E st h=>by
  rcases hty with rfl|rfl;·exact wpAny_pyIter_striter_ascii st.2 h
  ·exact wpAny_pyIter_striter_wide st.2 h
theorem iL{X:Cx}{tg l:Expr}{tl:TE}(hl:PE X l tl):PI X tg l (AB tl):=by
 intro pins s σ H R I h;refine bG (hl pins s σ H _ I h) fun v s1 zz=>?_;obtain⟨x,H1,I1,r1,q1⟩:=zz;obtain⟨y,e,q⟩:=q1;subst e;obtain⟨t,rfl⟩:=r1;have hn:(sOf y).cps.size=y.length:=by simp[sOf]
 have fin:∀(ob:Obj)(ty:String),(ty="str_ascii_iterator"\/ty="str_iterator")->(∀A':EB,A'.handled=none->Walks X.prog X.w A' s1.heap.objs.size [s1.heap.objs.size] [s1.heap.objs.size] y.length (SignAt<|sOf y) (fun i h=>h.IsStrIter s1.heap.objs.size ty (sOf y) t i))->
   (s1.heap.push ob).IsStrIter s1.heap.objs.size ty (sOf y) t 0->Ck X pins σ tg R (.ref s1.heap.objs.size) {s1 with heap:=s1.heap.push ob}:=fun ob ty hty W st=>by
  refine⟨s1.heap.objs.size,[s1.heap.objs.size],_,_,H1,rfl,I1.kept (t':=s1.toks) fun b o e=>DH _ e,tR y _ ty t hty W,⟨Eh _,st⟩,fun b hb=>?_,q⟩;have e:b=s1.heap.objs.size:=by simpa using hb
  subst e;exact I1.fpOk (DQ _)<|I1.hok.fresh<|DQ _
 cases ha:(sOf y).cps.all (· <128);·exact Li ha<|fin _ "str_iterator" (.inr rfl) (fun A' hA=>hn▸Walks.strWide hA _ (sOf y) t) ⟨_,DS _ rfl,rfl,rfl⟩
 ·exact L4 ha<|fin _ "str_ascii_iterator" (.inl rfl) (fun A' hA=>hn▸Walks.strAscii hA _ (sOf y) t) ⟨_,DS _ rfl,rfl,rfl⟩
def bQ(env:Env):List (Str×GL)->List (Str×Addr)->List (Str×Addr)
 | [],acc=>acc
 |(n,k)::r,acc=>bQ env r (if(k== .free)=true then(n,(env.cells.lookup n).getD 0)::acc else acc)
theorem dn{scope:Hi}{env:Env}(h:∀x∈scope.names,x.2=.free->∃c,env.cells.lookup x.1=some c):closureFor scope env=pure (bQ env scope.names []):=by
 simp only[closureFor];have key:∀(names:List (Str×GL))(acc:List (Str×Addr)),(∀x∈names,x.2=.free->∃c,env.cells.lookup x.1=some c)->
   (forIn names acc fun(x:Str×GL)(cs:List (Str×Addr))=>if(x.2== .free)=true then(do let a <-cellOf env x.1;pure (Et ((x.1,a)::cs)))else pure (Et cs))=(pure (bQ env names acc):Sem _):=by
  intro names
  induction names with
  |nil=>intro acc _;rfl
  |cons x r ih=>
   intro acc hx;obtain⟨n,k⟩:=x;rw[HP];have hr:∀y∈r,y.2=.free->∃c,env.cells.lookup y.1=some c:=fun y hy=>hx y<|E9 _ hy;unfold bQ;by_cases hk:(k==Fs)=true
   ·obtain⟨c,hc⟩:=hx (n,k) E5 (by simpa using hk);have hc:env.cells.lookup n=some c:=hc;simp only[hk,if_true];unfold cellOf;simp only[hc,Gs];exact ih _ hr
   ·simp only[hk,if_false];exact ih _ hr
 have:=key scope.names [] h;rw[this];rfl
theorem fU{env:Env}{x:Str}{c:Addr}:∀(names:List (Str×GL))(acc:List (Str×Addr)),(∀y∈names,y.2=.free->∃c,env.cells.lookup y.1=some c)->(bQ env names acc).lookup x=some c->
  ((x,Fs)∈names/\env.cells.lookup x=some c)\/acc.lookup x=some c
 | [],_,_,h=>.inr h
 |(n,k)::r,acc,hx,h=>by
  unfold bQ at h;rcases fU r _ (fun y hy=>hx y<|E9 _ hy) h with⟨q1,q2⟩|q
  ·exact .inl ⟨E9 _ q1,q2⟩
  ·by_cases hk:(k == Fs)=true
   ·rw[if_pos hk]at q;have hk':k=.free:=by simpa using hk
    subst hk';rw[FU]at q;cases hb:x==n with
    |true=>
     rw[hb]at q;have e:x=n:=beq_iff_eq.mp hb;subst e;obtain⟨c',hc⟩:=hx (x,.free) E5 rfl;have hc:env.cells.lookup x=some c':=hc;rw[hc]at q;simp at q;subst q;exact .inl ⟨E5,hc⟩
    |false=>rw[hb]at q;exact .inr q
   ·rw[if_neg hk]at q;exact .inr q
theorem iW{env:Env}{x:Str}{c:Addr}:∀(names:List (Str×GL))(acc:List (Str×Addr)),acc.lookup x=some c->env.cells.lookup x=some c->(bQ env names acc).lookup x=some c
 | [],_,h,_=>h
 |(n,k)::r,acc,h,he=>by
  unfold bQ;refine iW r _ ?_ he;by_cases hk:(k==Fs)=true
  ·rw[if_pos hk,FU];cases hb:x==n with
   |true=>
    have e:x=n:=beq_iff_eq.mp hb;subst e;simp[he]
   |false=>exact h
  ·rw[if_neg hk];exact h
theorem iX{env:Env}{x:Str}{c:Addr}:∀(names:List (Str×GL))(acc:List (Str×Addr)),(x,Fs)∈names->env.cells.lookup x=some c->(bQ env names acc).lookup x=some c
 |(n,k)::r,acc,h,he=>by
  unfold bQ;rcases E1.mp h with e|h
  ·cases e;exact iW r _ (by simp[he]) he
  ·exact iX r _ h he
theorem cj:∀(names:List (Str×GL))(n:Nat)(acc:List (Str×Addr)),cellsFrom n names acc=cellsFrom n names []++acc
 | [],_,_=>rfl
 |(x,k)::r,n,acc=>by
  unfold cellsFrom;split;·rw[cj r _ ((x,n)::acc),cj r _ [(x,n)],Eb];rfl
  ·exact cj r n acc
theorem dB:∀(names:List (Str×GL))(n:Nat){x:Str}{c:Addr},(x,c)∈cellsFrom n names []->(x,KJ)∈names
 | [],_,_,_,h=>by cases h
 |(y,k)::r,n,x,c,h=>by
  unfold cellsFrom at h;split at h
  ·rename_i hk;rw[cj]at h;rcases EI.mp h with h|h
   ·exact E9 _<|dB r _ h
   ·have e:(x,c)=(y,n):=by simpa using h
    cases e;have hk':k=.cell:=by simpa using hk
    subst hk';exact E5
  ·exact E9 _<|dB r _ h
theorem jD{M:K5}{A:EB}{E:DM->DN->Prop}{s:DN}{scope:Hi}{env:Env}{cl:List (Str×Addr)}{Q:Env->DN->Prop}
  (hQ:Q (newEnv scope s.heap.objs.size env.globals (cellsFrom (s.heap.objs.size+1) scope.names cl) env.qual none .none (some env) builtinsNs) {s with heap:=pushCells (s.heap.push {cls:=.type "dict",data:=.dict #[]}) scope.names}):
  wpAny M A (newFunctionEnv scope env.globals cl [] env.qual none .none<|some env) Q E s:=by
 simp only[newFunctionEnv,L3,if_true];refine DF<|wpAny_alloc ?_;refine DF (wpAny_layCells _ (fun name kind cells=>by cases hkc:kind==KJ<;>simp[hkc]) _ _ _ _ ?_);rw[show({s with heap:=s.heap.push {cls:=.type "dict",data:=.dict #[]}}:DN).heap.objs.size=s.heap.objs.size+1 from EX ..];simp only[Ia];exact DF<|DL<|DL hQ
section
variable{prog:E4}{w:E8}{A:EB}{R:M4->DN->Prop}{s:DN}
theorem lM{elt target iter:Expr}{ifs:List Expr}{scope:Hi}{pos:Pos}{it acc:DM}{env:Env}(I:Nat->DN->Prop)
  (turn:∀n s,I n s->wpAny (model prog w) A (pyNext it) (fun r s₁=>match r with
   |none=>R (.ok .next) s₁
   | some v=>wpAny (model prog w) A (letOwnedTupleGo target it v) (fun _ s₁'=>wpAny (model prog w) A (assign target env v) (fun _ s₂=>
     wpAny (model prog w) A (forIn ifs true fun c r=>if r=true then do let ok <-isTrue c env (eval c env);pure (Et ok)else pure (Et r)) (fun ok s₃=>
      if ok=true then wpAny (model prog w) A (eval elt env) (fun x s₄=>
       wpAny (model prog w) A (call (.builtin "list.append") [acc,x]) (fun _ s₅=>∃m,m<n/\I m s₅) (fun _ _=>False) s₄) (fun _ _=>False) s₃
      else ∃m,m<n/\I m s₃) (fun _ _=>False) s₂) (fun _ _=>False) s₁') (fun _ _=>False) s₁) (fun _ _=>False) s)
  (n:Nat) (h:I n s):codeAny (model prog w) A (.compLoop (.ListComp elt [⟨target,iter,ifs,0⟩] scope pos) 0 it acc env) R s:=by
 refine codeAny_loop rfl I (fun n s hI=>?_) n h;show wpAny _ A ((compTurn (.ListComp elt [⟨target,iter,ifs,0⟩] scope pos) 0 it acc env).onRaise (fun x=>do noteFrame x env;theTreesLotGoes x)) _ _ s;refine wpAny_noted ?_;rw[compTurn_list];refine DF<|Gq<|DF<|F5 (turn n s hI) (fun r s₁ h₁=>?_) fun _ _ h'=>h'.elim;cases r with
 |none=>exact DL h₁
 |some v=>
  refine DF<|F5 h₁ (fun _ s₁' h₁'=>?_) fun _ _ h'=>h'.elim;refine DF<|F5 h₁' (fun _ s₂ h₂=>DF<|F5 h₂ (fun ok s₃ h₃=>?_) fun _ _ h'=>h'.elim) fun _ _ h'=>h'.elim;cases ok with
  |true=>
   rw[if_pos rfl]at h₃;exact DF<|DF<|F5 h₃ (fun x s₄ h₄=>DF<|F5 h₄ (fun _ s₅ h₅=>DL<|DL ⟨rfl,h₅⟩) fun _ _ h'=>h'.elim) fun _ _ h'=>h'.elim
  |false=>
   rw[if_neg E3]at h₃;exact DL ⟨rfl,h₃⟩
end
def tS(scope:Hi)(x:Str):Bool:=scope.names.lookup x==some .local||scope.names.lookup x==some .cell
def aH(X:Cx)(scope:Hi)(N:List Str)(s:DN)(H:Hp)(C:Addr)(fp:List Addr):Cx:=
 {X with N:=N,s₀:=s,H₀:=H,env:=compEnvC scope (cellsFrom (C+1) scope.names<|bQ X.env scope.names []) C X.env,outer:=X.stack,ex:=fp,fn:=tS scope,pn:=[],xe:=fun _ _=>False}
def bh(cap:List (Option Nat))(σ:St):St:=cap.map fun o=>o.bind fun j=>(σ[j]?).bind id
structure CompScope(X:Cx)(scope:Hi)(N:List Str)(cap:List (Option Nat)):Prop where
 kind:scope.kind=.function
 nd:N.Nodup
 len:cap.length=N.length
 uniq:(scope.names.map (·.1)).Nodup
 free:∀x∈scope.names,x.2=.free->(X.env.kindOf x.1=some .cell\/X.env.kindOf x.1=some .free)
 cap:∀(k:Nat)(x:Str)(j:Nat),N[k]? =some x->cap[k]? =some (some j)->X.N[j]? =some x/\(x,Fs)∈scope.names
theorem cy{α:Type}:∀{l:List (Str×α)}{x:Str}{k:α},(l.map (·.1)).Nodup->(x,k)∈l->l.lookup x=some k
 |(y,j)::r,x,k,nd,h=>by
  obtain⟨n1,n2⟩:=G1.mp (show(y::r.map (·.1)).Nodup from nd);rw[FU];rcases E1.mp h with e|h;·cases e;simp
  ·have:(x == y)=false:=beq_eq_false_iff_ne.mpr fun e=>n1<|e▸Ex.mpr ⟨(x,k),h,rfl⟩;rw[this];exact cy n2 h
theorem eg{env:Env}:∀{names:List (Str×GL)}{x:Str},(names.map fun(p:Str×GL)=>if(p.2==Fs&&env.scope.kind== .function&&env.kindOf p.1==some .cell)=true then(p.1,KJ)else(p.1,p.2)).lookup x=
  (names.lookup x).map fun k=>if(k==Fs&&env.scope.kind== .function&&env.kindOf x==some .cell)=true then .cell else k
 | [],_=>rfl
 |(n,k)::r,x=>by
  rw[EY];have ih:= @eg env r x;by_cases hx:x=n
  ·subst hx;by_cases hc:(k==Fs&&env.scope.kind== .function&&env.kindOf x==some .cell)=true;·simp only[hc,if_true,FU,beq_self_eq_true,Hj]
   ·rw[if_neg hc,FU,FU,beq_self_eq_true];simp only[Hj];rw[if_neg hc]
  ·have hb:(x == n)=false:=beq_eq_false_iff_ne.mpr hx;by_cases hc:(k==Fs&&env.scope.kind== .function&&env.kindOf n==some .cell)=true;·simp only[hc,if_true,FU,hb];exact ih
   ·rw[if_neg hc,FU,FU,hb];exact ih
def sW(X:Cx)(ifs:List Expr)(t:TT):Prop:=
 ∀(pins:List (Addr×Obj))(s:DN)(σ:St)(H:Hp)(Q:Bool->Hp->Prop),Inv X pins σ H s->t σ H Q->
  wpAny (model X.prog X.w) X.A (forIn ifs true fun c r=>if r=true then do let ok <-isTrue c X.env (eval c X.env);pure (Et ok)else pure (Et r)) (TP X pins σ Q) X.xe s
def zj:TT:=fun _ H Q=>Q true H
theorem cq{X:Cx}:sW X [] zj:=fun _ _ _ H _ I h=>wpAny_tests_nil ⟨H,I,h⟩
theorem wJ{X:Cx}{c:Expr}{t:TT}(h:PT X c t):sW X [c] t:=fun pins s σ H Q I hq=>wpAny_tests_one<|h pins s σ H Q I hq
def Keep:St->St->Prop
 | [],_=>True
 |none::a,_::b=>Keep a b
 |some v::a,some u::b=>v=u/\Keep a b
 |_,_=>False
theorem Keep.get:∀{a b:St}{j:Nat}{v:V},Keep a b->a[j]? =some (some v)->b[j]? =some (some v)
 | [],_,_,_,_,h=>by simp at h
 |none::a,_::b,0,_,_,h=>by simp at h
 |none::a,_::b,j+1,v,k,h=>Keep.get (j:=j) (a:=a) (b:=b) k h
 |some w::a,some u::b,0,v,k,h=>by
  have e:w=u:=k.1;subst e;exact h
 |some w::a,some u::b,j+1,v,k,h=>Keep.get (j:=j) (a:=a) (b:=b) k.2 h
 |none::_,[],_,_,k,_=>k.elim
 |some _::_,[],_,_,k,_=>k.elim
 |some _::_,none::_,_,_,k,_=>k.elim
def AD(cap:List (Option Nat))(g:TG)(tf:TT)(te:TE)(σ:St)(H1:Hp)(Q:VK)(J:It):Prop:=∃W:Nat->Nat->List V->Hp->Prop,(∃m,W 0 m [] H1)/\∀i m ys H,W i m ys H->ys.length<sizeLine/\
  ((J.stop i H/\∀D,H D=none->Q (.ref D) (cn H D<|.lst ys))\/
   (J.go i H/\∃N:List V->Hp->Prop,(∀ys' H',N ys' H'->∃m',m'<m/\W (i+1) m' ys' H')/\∀x H',J.yld i H x H'->g x (bh cap σ) H' fun σ2 H2=>Keep (bh cap σ) σ2/\tf σ2 H2 fun b H3=>if b=true then te σ2 H3 fun y H4=>N (ys++[y]) H4 else N ys H3))
def pX(cap:List (Option Nat))(wi:TI)(g:TG)(tf:TT)(te:TE):TE:=fun σ H Q=>wi σ H fun J H1=>AD cap g tf te σ H1 Q J
theorem cH{X:Cx}{scope:Hi}{C:Addr}{x:Str}{c:Addr}(frc:∀x∈scope.names,x.2=.free->∃c,X.env.cells.lookup x.1=some c)
  (h:(cellsFrom (C+1) scope.names<|bQ X.env scope.names []).lookup x=some c):(x,c)∈cellsFrom (C+1) scope.names []\/((x,Fs)∈scope.names/\X.env.cells.lookup x=some c):=by
 rw[cj,L5]at h;cases e:(cellsFrom (C+1) scope.names []).lookup x with
 |some d=>
  rw[e]at h;have h:some d=some c:=h;cases h;exact .inl<|FG e
 |none=>
  rw[e]at h;have h:(bQ X.env scope.names []).lookup x=some c:=h;rcases fU _ _ frc h with q|q
  ·exact .inr q
  ·cases q
theorem mX{X:Cx}{scope:Hi}{C:Addr}{x:Str}{c:Addr}(uq:(scope.names.map (·.1)).Nodup)(hx:(x,Fs)∈scope.names)(hc:X.env.cells.lookup x=some c):
  (cellsFrom (C+1) scope.names<|bQ X.env scope.names []).lookup x=some c:=by
 rw[cj,L5];cases e:(cellsFrom (C+1) scope.names []).lookup x with
 |some d=>
  have h1:=cy uq<|dB _ _<|FG e;have h2:=cy uq hx;rw[h1]at h2;cases h2
 |none=>exact iX _ _ hx hc
section
variable{X:Cx}{scope:Hi}{N:List Str}{cap:List (Option Nat)}{pins:List (Addr×Obj)}{σ:St}{H:Hp}{s:DN}{C:Addr}{fp:List Addr}
theorem rk{h4:Heap}(S:CompScope X scope N cap)(I:Inv X pins σ H s)(hC:s.heap.objs.size<=C)(ck:MX h4 (C+1) (cellsFrom (C+1) scope.names []))
  (hf:∀b∈fp,FpOk X pins H b) (hlt:∀b∈fp,b<C):(aH X scope N s H C fp).Ok:=by
 have frc:∀x∈scope.names,x.2=.free->∃c,X.env.cells.lookup x.1=some c:=fun x hx hk=>I.ok.has x.1<|S.free x hx hk;have old:∀x c,X.env.cells.lookup x=some c->c<C:=fun x c e=>by
  obtain⟨v,q⟩:=I.cell x c e;exact DV q.lt hC
 have own:∀x c,(x,c)∈cellsFrom (C+1) scope.names []->C<c:=fun x c e=>(ck.empty x c e).2;refine⟨I.ok.mod,S.kind,I.ok.glob,I.ok.blt,hC,fun x y c h1 h2=>?_,fun x hx=>?_,fun x c hfn h=>?_,I.ok.hd,I.ok.frames,.inl rfl,fun b hb=>⟨Ed<|hlt b hb,fun x c h=>?_⟩,I.bs,FO I.ok.bsz I.sz,fun b o e hb=>?_,fun b hb z=>?_,I.stack,I.stkFree⟩
 ·rcases cH frc h1 with a | ⟨a1,a2⟩ <;> rcases cH frc h2 with b | ⟨b1,b2⟩
  ·exact name_of_addr ck.apart a b
  ·exact absurd (JY (own x c a)<|old y c b2)<|Fi _
  ·exact absurd (JY (own y c b)<|old x c a2)<|Fi _
  ·exact I.ok.inj x y c a2 b2
 ·have hx:(relabel scope X.env).names.lookup x=some .cell\/(relabel scope X.env).names.lookup x=some .free:=hx;have e:(relabel scope X.env).names.lookup x=_:=eg (env:=X.env) (names:=scope.names) (x:=x);rw[e]at hx;cases q:scope.names.lookup x with
  |none=>rw[q]at hx;rcases hx with z|z<;>cases z
  |some k=>
   have hm:=FG q;by_cases hk:k=.free
   ·subst hk;obtain⟨c,hc⟩:=frc _ hm rfl;exact⟨c,mX S.uniq hm hc⟩
   ·have hk':(k == Fs)=false:=by simpa using hk
    rw[q]at hx;simp only[Hj,hk',J3,ED,if_false]at hx;have hkc:k=.cell:=by
     rcases hx with z|z;·exact Es z
     ·exact absurd (Es z) hk
    subst hkc;exact Jy.mp<|HZ scope.names (C+1) _<|.inl q
 ·rcases cH frc h with a | ⟨a1,a2⟩
  ·exact FO hC<|HE<|own x c a
  ·have q:=cy S.uniq a1;have z:tS scope x=true:=hfn;unfold tS at z;rw[q]at z;exact absurd z (by decide)
 ·rcases cH frc h with a | ⟨a1,a2⟩
  ·exact Hc<|JY (hlt b hb)<|own x c a
  ·exact(hf b hb).2.2.2.2.1 x c a2
 ·rcases (hf b hb).2.2.2.1 with z | z;·exact I.ok.noex b o e z
  ·exact absurd (DV (DV (DW e) I.ok.bsz) z)<|Fi _
 ·rcases E1.mp (I.stkSub b z)with q | q;·exact(hf b hb).2.1 q
  ·exact(hf b hb).2.2.1 q
theorem jE{s4:DN}(S:CompScope X scope N cap)(I:Inv X pins σ H s)(hC:s.heap.objs.size<=C)(ck:MX s4.heap (C+1) (cellsFrom (C+1) scope.names []))
  (hf:∀b∈fp,FpOk X pins H b) (hlt:∀b∈fp,b<C) (h4:∃h' tk,s4={s with heap:=h',toks:=tk}) (hn:s4.heap.Ns C fun _=>none) (hk:∀b o,s.heap.get? b=some o->s4.heap.get? b=some o):
  Inv (aH X scope N s H C fp) [] (bh cap σ) H s4:=by
 have frc:∀x∈scope.names,x.2=.free->∃c,X.env.cells.lookup x.1=some c:=fun x hx hk=>I.ok.has x.1<|S.free x hx hk;obtain⟨h',tk,rfl⟩:=h4;refine⟨rk S I hC ck hf hlt,rfl,I.bare,Un.kept hk,⟨_,hn,fun i x v e1 e2 e3=>?_⟩,fun x c h=>?_,I.hok.fresh hC,fun x c h=>?_,fun p hp=>absurd (show p∈([]:List (Addr×Obj))from hp) (by simp),I.hok.kept hk,?_⟩
 ·have e1:N[i]? =some x:=e1;unfold bh at e2;rw[DU]at e2;cases q:cap[i]? with
  |none=>rw[q]at e2;cases e2
  |some o=>
   cases o with
   |none=>rw[q]at e2;cases e2
   |some j=>
    rw[q]at e2;obtain⟨hj,hm⟩:=S.cap i x j e1 q;have e2:σ[j]?.bind id=some v:=Es e2;have e2':σ[j]? =some (some v):=by
     cases z:σ[j]? with
     |none=>rw[z]at e2;cases e2
     |some o=>rw[z]at e2;exact congrArg some e2
    have kd:=S.free _ hm rfl;obtain⟨m,_,hl⟩:=I.loc;obtain⟨u,r,lk⟩:=hl j x v hj e2' (by rcases kd with z|z;exact .inr<|.inl z;exact .inr<|.inr z);refine⟨u,r,.inr ?_⟩;rcases lk with⟨z,_⟩|⟨_,c,hc,hcell⟩
    ·rcases kd with q|q<;> ·rw[show X.env.kindOf x=_ from q]at z;cases z
    ·refine⟨?_,c,mX S.uniq hm hc,hcell.keeps hk⟩;have e:(relabel scope X.env).names.lookup x=_:=eg (env:=X.env) (names:=scope.names) (x:=x);rw[cy S.uniq hm]at e;simp only[Hj]at e;show(relabel scope X.env).names.lookup x=some .cell\/(relabel scope X.env).names.lookup x=some .free;rw[e];split;·exact .inl rfl
     ·exact .inr rfl
 ·rcases cH frc h with a | ⟨a1,a2⟩
  ·exact⟨_,(ck.empty x c a).1⟩
  ·obtain⟨v,q⟩:=I.cell x c a2;exact⟨v,q.keeps hk⟩
 ·rcases cH frc h with a | ⟨a1,a2⟩
  ·exact I.hok.fresh<|FO hC<|HE (ck.empty x c a).2
  ·exact I.freeC x c a2
 ·show(bh cap σ).length=N.length;unfold bh;rw[El,S.len]
end
abbrev gM(its:List DM)(k:Nat):Obj:={cls:=.type "list",data:=.seq its.toArray k}
section
variable{X:Cx}{scope:Hi}{N:List Str}{cap:List (Option Nat)}{tg iter elt:Expr}{ifs:List Expr}{pos:Pos}{wi:TI}{g:TG}{tf:TT}{te:TE}
theorem kZ(S:CompScope X scope N cap)(hc:X.calm=true)
  (hg:∀s H C fp,PG (aH X scope N s H C fp) tg g) (hf:∀s H C fp,sW (aH X scope N s H C fp) ifs tf) (he:∀s H C fp,PE (aH X scope N s H C fp) elt te)
  {pins:List (Addr×Obj)} {σ:St} {H2:Hp} {s2:DN} {it:Addr} {fp:List Addr} {tn:Nat->Heap->Prop} {J:It} {Qv:VK} {E:DM->DN->Prop} {RR:DM->Addr->M4->DN->Prop}
  (I2:Inv X pins σ H2 s2) (T:Turn X.prog X.w X.K tg J fp it tn) (st2:tn 0 s2.heap) (f2:∀b∈fp,FpOk X pins H2 b) {W:Nat->Nat->List V->Hp->Prop} (w0:∃m,W 0 m [] H2)
  (turn:∀i m ys H,W i m ys H->ys.length< sizeLine/\((J.stop i H/\∀D,H D=none->Qv (.ref D) (cn H D<|.lst ys))\/
   (J.go i H/\∃N:List V->Hp->Prop,(∀ys' H',N ys' H'->∃m',m'<m/\W (i+1) m' ys' H')/\∀x H',J.yld i H x H'->g x (bh cap σ) H' fun σ2 H2=>Keep (bh cap σ) σ2/\tf σ2 H2 fun b H3=>if b=true then te σ2 H3 fun y H4=>N (ys++[y]) H4 else N ys H3)))
  (fin:∀(D C:Addr) (σ':St) (H':Hp) (s':DN) (its:List DM) (k:Nat) (ys:List V),s2.heap.objs.size<=D->s2.heap.objs.size<=C->D≠C->Inv (aH X scope N s2 H2 C fp) [(D,gM its k)] σ' H' s'->Vals ys its->ys.length<=sizeLine->
   Qv (.ref D) (cn H' D (.lst ys))->RR (.ref D) C (.ok .next) s'):
  wpAny (model X.prog X.w) X.A (newList []) (fun acc s₃=>wpAny (model X.prog X.w) X.A (newFunctionEnv scope X.env.globals (bQ X.env scope.names []) [] X.env.qual none .none<|some X.env) (fun cenv s₄=>
   codeAny (model X.prog X.w) X.A (.compStart (.ListComp elt [⟨tg,iter,ifs,0⟩] scope pos) 0 (.ref it) acc {cenv with scope:=relabel scope X.env}) (RR acc cenv.locals) s₄) E s₃) E s2:=by
 refine F4<|jD ?_;generalize hD:s2.heap.objs.size=D;generalize hH3:s2.heap.push {cls:=.type "list",dict:=none,data:=.seq ([]:List DM).toArray}=h3;have hz3:h3.objs.size=D+1:=by rw[<-hH3,EX,hD]
 dsimp only;have eC:({s2 with heap:=h3}:DN).heap.objs.size=D+1:=hz3;rw[show h3.objs.size=D+1 from hz3];generalize hH4:pushCells (h3.push {cls:=.type "dict",data:=.dict #[]}) scope.names=h4;have hz3':(h3.push {cls:=.type "dict",data:=.dict #[]}).objs.size=D+1+1:=by rw[EX,hz3]
 have ck:MX h4 (D+1+1) (cellsFrom (D+1+1) scope.names []):=by
  have:=cellsFrom_ok scope.names (h3.push {cls:=.type "dict",data:=.dict #[]}) (D+1+1) [] ⟨fun _ _ hm=>(nomatch hm),Hn⟩ (by rw[hz3'];exact DQ _);rw[hz3',hH4]at this;exact this
 have k23:∀b o,s2.heap.get? b=some o->h3.get? b=some o:=fun b o e=>by rw[<-hH3];exact DH _ e
 have k34:∀b o,h3.get? b=some o->h4.get? b=some o:=fun b o e=>by rw[<-hH4];exact IL _ _ b o<|DH _ e
 have hD4:h4.get? D=some (gM [] 0):=k34 _ _ (by rw[<-hH3,<-hD];exact DS _ rfl);have hn4:h4.Ns (D+1) fun _=>none:=by
  rw[<-hH4,<-hz3];exact(Ni h3<|.type "dict").keeps (IL _ _)
 have fpD:∀b∈fp,b<D:=fun b hb=>by
  obtain⟨o,e,_⟩:=T.obj _ _ st2 b hb;rw[<-hD];exact DW e
 have hlt:∀b∈fp,b<D+1:=fun b hb=>Jq<|fpD b hb;have hDC:s2.heap.objs.size<=D+1:=by rw[hD];exact Jr _
 have hDs:s2.heap.objs.size<=D:=by rw[hD];exact DQ _
 have IC:Inv (aH X scope N s2 H2 (D+1) fp) [] (bh cap σ) H2 {s2 with heap:=h4}:=
  jE S I2 hDC ck f2 hlt ⟨_,_,rfl⟩ hn4 fun b o e=>k34 b o<|k23 b o e
 have okC:=IC.ok;have nfs:∀{b:Addr},s2.heap.objs.size<=b->b∉frs X.stack:=fun{b}hb hm=>by
  obtain⟨_,o,ho,_⟩:=I2.stack.mem hm;exact absurd (DV (DW ho) hb)<|Fi _
 have frc:∀x∈scope.names,x.2=.free->∃c,X.env.cells.lookup x.1=some c:=fun x hx hk=>I2.ok.has x.1<|S.free x hx hk;have cellsD:∀x c,(aH X scope N s2 H2 (D+1) fp).env.cells.lookup x=some c->c≠D:=fun x c e=>by
  rcases cH frc e with a|⟨_,a⟩
  ·have q:D+1+1<=c:=(ck.empty x c a).2;exact Hc<|DV (DV (HF D)<|Jr _) q
  ·obtain⟨v,q⟩:=I2.cell x c a;have:=q.lt;rw[hD]at this;exact Ed this
 have fpO:∀{H':Hp}{its:List DM}{k:Nat},(∀b∈fp,H' b=none)->∀b∈fp,FpOk (aH X scope N s2 H2 (D+1) fp) [(D,gM its k)] H' b:=fun{H' its k}hn b hb=>
  ⟨hn b hb,Ed<|hlt b hb,okC.exfs b hb,.inl hb,(okC.exf b hb).2,fun p hp=>by
   have e:p=(D,gM its k):=by simpa [aH] using hp
   subst e;exact Hc (fpD b hb)⟩
 have pinD:∀{σ':St}{H':Hp}{s':DN}{its:List DM}{k:Nat},Inv (aH X scope N s2 H2 (D+1) fp) [] σ' H' s'->s'.heap.get? D=some (gM its k)->H' D=none->Inv (aH X scope N s2 H2 (D+1) fp) [(D,gM its k)] σ' H' s':=fun{σ' H' s' its k}J e n=>
  J.pins_of fun p hp=>by
   have e':p=(D,gM its k):=by simpa using hp
   subst e';exact⟨e,n,Ed<|HF _,nfs hDs,fun v z=>by
    have z':Ku its.toArray k=Hk v:=z;cases z'⟩
 have loop:codeAny (model X.prog X.w) X.A (.compLoop (.ListComp elt [⟨tg,iter,ifs,0⟩] scope pos) 0 (.ref it) (.ref D) (aH X scope N s2 H2 (D+1) fp).env) (RR (.ref D)<|D+1) {s2 with heap:=h4}:=by
  obtain⟨m0,w0⟩:=w0;refine lM (fun n s'=>∃i ys its k σ' H',Inv (aH X scope N s2 H2 (D+1) fp) [(D,gM its k)] σ' H' s'/\tn i s'.heap/\(∀b∈fp,H' b=none)/\Vals ys its/\(∀(j:Nat)(v:V),(bh cap σ)[j]? =some (some v)->σ'[j]? =some (some v))/\W i n ys H') ?_ m0
   ⟨0,[],[],0,bh cap σ,H2,pinD IC hD4<|I2.hok.fresh hDs,T.keep _ _ _ st2 fun b hb o e=>k34 b o<|k23 b o e,fun b hb=>(f2 b hb).1,.nil,fun _ _ e=>e,w0⟩
  rintro n s3 ⟨i,ys,its,k,σ3,H3,I3,st3,fr3,rv,kp,w3⟩;obtain⟨hyl,tr⟩:=turn i n ys H3 w3;have pin3:=I3.pin (D,gM its k)<|Eo _ E5;rcases tr with⟨stop,qn⟩|⟨go,NN,hNN,step⟩
  ·refine bG (T.done (aH X scope N s2 H2 (D+1) fp) rfl rfl rfl hc i _ s3 σ3 H3 _ I3 (fpO fr3) st3 stop) fun r s4 zz=>?_;obtain⟨hr,I4⟩:=zz;subst hr;exact fin D (D+1) σ3 H3 s4 its k ys hDs hDC (Ed<|HF _) I4 rv (HE hyl)<|qn D pin3.2.1
  ·have I3':Inv (aH X scope N s2 H2 (D+1) fp) [(D,gM its k)] (bh cap σ) H3 s3:=I3.weak (by rw[I3.len,IC.len]) kp;refine bG (T.item (aH X scope N s2 H2 (D+1) fp) rfl rfl rfl hc i _ s3 _ H3 _ I3' (fpO fr3) st3 go) fun r s4 zz=>?_;obtain⟨u,hr,h4⟩:=zz;subst hr;refine bG h4 fun _ s5 zz=>?_;obtain⟨x,H5,I5,r5,y5,st5,fr5⟩:=zz;have I5':=I5.pinned (fpO fr5)<|T.obj _ _ st5;refine bG (hg _ _ _ _ _ s5 _ H5 x u _ I5' r5<|step x H5 y5) fun _ s6 zz=>?_;obtain⟨σ6,H6,I6,kp6,q6⟩:=zz;refine bG (hf _ _ _ _ _ s6 σ6 H6 _ I6 q6) fun ok s7 zz=>?_;obtain⟨H7,I7,q7⟩:=zz;have back:∀{s8:DN}{H8:Hp},Inv (aH X scope N s2 H2 (D+1) fp) ([(D,gM its k)]++iI fp s5.heap) σ6 H8 s8->tn (i+1) s8.heap/\(∀b∈fp,H8 b=none)/\s8.heap.get? D=some (gM its k)/\H8 D=none:=fun{s8 H8}I8=>by
    have at_:∀b∈fp,∀o,s5.heap.get? b=some o->s8.heap.get? b=some o/\H8 b=none:=fun b hb o e=>by
     have z:=I8.pin (b,o)<|Eo _<|Eo _<|dY hb e;exact⟨z.1,z.2.1⟩
    have pd:=I8.pin (D,gM its k)<|Eo _<|Iu _ E5;refine⟨T.keep _ _ _ st5 fun b hb o e=>(at_ b hb o e).1,fun b hb=>?_,pd.1,pd.2.1⟩;obtain⟨o,e,d⟩:=T.obj _ _ st5 b hb;exact(at_ b hb o e).2
   cases ok with
   |false=>
    rw[if_neg E3]at q7 ⊢;obtain⟨m',hm,w'⟩:=hNN _ _ q7;obtain⟨t7,f7,d7,n7⟩:=back I7;exact⟨m',hm,i+1,ys,its,k,σ6,H7,I7.unpinned,t7,f7,rv,fun j v e=>Keep.get kp6 e,w'⟩
   |true=>
    rw[if_pos rfl]at q7 ⊢;refine bG (he _ _ _ _ _ s7 σ6 H7 _ I7 q7) fun y8 s8 zz=>?_;obtain⟨y,H8,I8,r8,q8⟩:=zz;obtain⟨m',hm,w'⟩:=hNN _ _ q8;obtain⟨t8,f8,d8,n8⟩:=back I8;refine append_at (D:=D) (its:=its.toArray) (n:=k) d8 (fun h' hs' hD'=>?_) (by rw[DY,<-rv.length];exact HE hyl);have J0:Inv (aH X scope N s2 H2 (D+1) fp) [] σ6 H8 s8:=I8.pins_of fun p hp=>by cases hp
    have J1:Inv (aH X scope N s2 H2 (D+1) fp) [] σ6 H8 {s8 with heap:=h'}:=J0.turned (it:=D) (t':=s8.toks) (fun b o hb e=>(hs'.2 b hb).trans e) n8 (Ed<|HF _) (.inr hDs) cellsD fun p hp=>by
     have:p∈([]:List (Addr×Obj)):=hp;cases this
    refine⟨m',hm,i+1,ys++[y],its++[y8],k+1,σ6,H8,pinD J1 (by simpa using hD') n8,T.keep _ _ _ t8 fun b hb o e=>(hs'.2 b<|Ed<|fpD b hb).trans e,f8,rv.append<|.cons r8 .nil,fun j v e=>Keep.get kp6 e,w'⟩
 exact codeAny_compStart_list loop<|F5 (T.self _ 0 _ _ _ (T.keep _ _ _ st2 fun b hb o e=>k34 b o<|k23 b o e) loop) (fun _ _ h=>h) fun _ _ h=>h
end
section
variable{X:Cx}{scope:Hi}{N:List Str}{cap:List (Option Nat)}{tg iter elt:Expr}{ifs:List Expr}{pos:Pos}{wi:TI}{g:TG}{tf:TT}{te:TE}
theorem mY{pins:List (Addr×Obj)}{σ σ':St}{H2 H':Hp}{s2 s':DN}{fp:List Addr}{D C:Addr}{its:List DM}{k:Nat}{ys:List V}{h':Heap}(I2:Inv X pins σ H2 s2)(f2:∀b∈fp,FpOk X pins H2 b)
  (hD:s2.heap.objs.size<=D) (hC:s2.heap.objs.size<=C) (hDC:D≠C) (I':Inv (aH X scope N s2 H2 C fp) [(D,gM its k)] σ' H' s') (rv:Vals ys its) (hl:ys.length<=sizeLine) (hs:E6 C s'.heap h'):
  Inv X pins σ (cn H' D<|.lst ys) {s' with heap:=h'}:=by
 have pd:=I'.pin (D,gM its k)<|Eo _ E5;have nD:H' D=none:=pd.2.1;have nC:H' C=none:=I'.free;have lt2:∀b o,s2.heap.get? b=some o->b≠D/\b≠C:=fun b o e=>⟨Ed<|DV (DW e) hD,Ed<|DV (DW e) hC⟩
 have hk:∀b o,b≠C->s'.heap.get? b=some o->h'.get? b=some o:=fun b o hb e=>(hs.2 b hb).trans e;have B:Un (frs X.stack) fp H2 H' s2.heap s'.heap:=I'.base;have tr:∀b u,H' b=some u->b≠D/\b≠C:=fun b u e=>⟨fun z=>(by rw[z,nD]at e;cases e),fun z=>(by rw[z,nC]at e;cases e)⟩
 refine I2.call' (ch:=fp) I'.os ⟨fun b o e n hb hx=>?_,fun b o e n hb hx=>?_,fun b o e n hx=>?_,fun b o e hx=>?_,fun b xs e=>?_,fun b o u e=>?_,fun b ps e=>?_⟩ (fun b u e=>?_) I'.bare fun b hb=>⟨(f2 b hb).2.2.2.1,(f2 b hb).2.1,(f2 b hb).2.2.2.2.1,(f2 b hb).2.2.2.2.2⟩
 ·exact hk b o (lt2 b o e).2 (B.keep b o e n hb hx)
 ·obtain⟨sl,q⟩:=B.slot b o e n hb hx;exact⟨sl,hk b _ (lt2 b o e).2 q⟩
 ·rw[aD (lt2 b o e).1];exact B.free b o e n hx
 ·obtain⟨o',q⟩:=B.there b o e hx;exact⟨o',hk b _ (lt2 b o e).2 q⟩
 ·rw[aD (tr b _<|B.tups b xs e).1];exact B.tups b xs e
 ·rw[aD (tr b _<|B.frzs b o u e).1];exact B.frzs b o u e
 ·obtain⟨more,q⟩:=B.tbls b ps e;exact⟨more,by rw[aD (tr b _ q).1];exact q⟩
 ·by_cases hb:b=D
  ·subst hb;rw[aI]at e;cases e;exact⟨hl,its,k,rv,hk _ _ hDC pd.1⟩
  ·rw[aD hb]at e;refine(I'.hok b u e).stay (fun c w' hc q=>hk c w' ?_ q) (fun c q=>by rw[aD (tr c _ q).1];exact q) fun c xs q=>by rw[aD (tr c _ q).1];exact q
   rcases hc with z|z;·rw[z];exact(tr b u e).2
   ·exact(tr c _ z).2
theorem fC(S:CompScope X scope N cap):∀x∈scope.names,x.2=.local->scope.names.lookup x.1=some .local:=fun x hx hl=>cy S.uniq (by rw[<-hl];exact hx)
theorem dG(S:CompScope X scope N cap)(hc:X.calm=true)(hi:PI X tg iter wi)
  (hg:∀s H C fp,PG (aH X scope N s H C fp) tg g) (hf:∀s H C fp,sW (aH X scope N s H C fp) ifs tf) (he:∀s H C fp,PE (aH X scope N s H C fp) elt te)
  (hs:∀x,foldedSetIterable iter X.env x=pure x:=by intro _;rfl):PE X (.ListComp elt [⟨tg,iter,ifs,0⟩] scope pos) (pX cap wi g tf te):=by
 intro pins s σ H Q I h;rw[eval_ListComp];have frc:∀x∈scope.names,x.2=.free->∃c,X.env.cells.lookup x.1=some c:=fun x hx hk=>I.ok.has x.1<|S.free x hx hk;refine GF (use:=none) rfl hs (dn frc) S.kind (fC S)<|bG (hi pins s σ H _ I h) fun v s1 h1=>bG h1 fun itv s2 h2=>?_;obtain⟨it,fp,tn,J,H2,rfl,I2,T,st2,f2,W,w0,turn⟩:=h2;refine kZ (RR:=fun acc C=>compPost (model X.prog X.w) X.A X.xe none (EP X pins σ Q) acc C) S hc hg hf he I2 T st2 f2 w0 turn fun D C σ' H' s' its k ys hD hC hDC I' rv hl q=>?_;obtain⟨m,hn,_⟩:=I'.loc;exact⟨m,hn,fun h' hs'=>⟨.ref D,_,mY I2 f2 hD hC hDC I' rv hl hs',rfl,q⟩⟩
end
section
variable{X:Cx}{scope:Hi}{N:List Str}{cap:List (Option Nat)}{tg iter elt:Expr}{ifs:List Expr}{pos spos py:Pos}{wi:TI}{g:TG}{tf:TT}{te:TE}{i:Nat}{y:Str}
theorem oK(hN:X.N.Nodup)(hi':X.N[i]? =some y)(hy:ym X.env.scope y)(S:CompScope X scope N cap)(hc:X.calm=true)(hi:PI X tg iter wi)
  (hg:∀s H C fp,PG (aH X scope N s H C fp) tg g) (hf:∀s H C fp,sW (aH X scope N s H C fp) ifs tf) (he:∀s H C fp,PE (aH X scope N s H C fp) elt te)
  (hsw:swapsWith (.ListComp elt [⟨tg,iter,ifs,0⟩] scope pos) (some<|.Name y py) spos.line X.env=pure true:=by rfl)
  (hs:∀x,foldedSetIterable iter X.env x=pure x:=by intro _;rfl) (hfn:X.fn y=true\/X.env.scope.names.lookup y=some .local:=by first|exact .inl rfl|exact .inr rfl|assumption):
  PS X (.Assign [.Name y py] (.ListComp elt [⟨tg,iter,ifs,0⟩] scope pos) spos) (iG (pX cap wi g tf te)<|d5 i):=by
 intro pins s σ H D I h;rw[exec_Assign_Name_used _ _ _ _ hsw];refine DF<|Gq<|DF ?_;show wpAny _ X.A (do let _ <-comprehension (.ListComp elt [⟨tg,iter,ifs,0⟩] scope pos) scope X.env _ (newList []) false (eval iter X.env) (some<|assign (.Name y py) X.env)) _ _ s;have frc:∀x∈scope.names,x.2=.free->∃c,X.env.cells.lookup x.1=some c:=fun x hx hk=>I.ok.has x.1<|S.free x hx hk;refine DF<|F5 (GF (use:=some<|assign (.Name y py) X.env) (Q:=fun _ s'=>SP X pins D .next s') rfl hs (dn frc) S.kind (fC S)<|bG (hi pins s σ H _ I h) fun v s1 h1=>bG h1 fun itv s2 h2=>?_) (fun _ s' hq=>DL<|DL hq) fun _ _ e=>e;obtain⟨it,fp,tn,J,H2,rfl,I2,T,st2,f2,W,w0,turn⟩:=h2;refine kZ (Qv:=fun x H1=>d5 i x σ H1 D.nx) (RR:=fun acc C=>compPost (model X.prog X.w) X.A X.xe (some<|assign (.Name y py) X.env) (fun _ s'=>SP X pins D .next s') acc C) S hc hg hf he I2 T st2 f2 w0 turn fun d C σ' H' s' its k ys hD hC hDC I' rv hl q=>?_;obtain⟨m,hn,_⟩:=I'.loc;have I3:Inv X pins σ (cn H' d<|.lst ys) s':=mY (h':=s'.heap) I2 f2 hD hC hDC I' rv hl<|.refl ..;have nC:(cn H' d<|.lst ys) C=none:=by rw[aD<|HN hDC];exact I'.free
 have cL:C≠X.env.locals:=fun z=>absurd (DV I2.lt hC) (by rw[z];exact Fi _);have cc:∀x c,X.env.cells.lookup x=some c->c≠C:=fun x c e z=>by
  obtain⟨v,q⟩:=I2.cell x c e;exact absurd (DV q.lt hC) (by rw[z];exact Fi _)
 show wpAny _ X.A (assign (.Name y py) X.env<|.ref d) _ _ _;refine La<|kQ (v:=.ref d) I3 hN hi' hy rfl (fun s4 I4⟨a,sb,ha⟩=>?_) hfn;have aC:C≠a:=by
  rcases ha with z|z;·rw[z];exact cL
  ·exact HN<|cc _ _ z
 refine⟨m,hn.sameBut sb aC,fun h' hs'=>?_⟩;exact⟨_,_,I4.turned (it:=C) (t':=s4.toks) (fun b o hb e=>(hs'.2 b hb).trans e) nC cL (.inr<|FO I2.sz hC) cc (fun p hp z=>absurd (DV (DW (I2.pin p hp).1) hC) (by rw[z];exact Fi _)),q⟩
end
inductive Src where
 |lst (a:Addr)|tup (a:Addr)|str (l:List Nat)
def Src.has(K:DJ)(H:Hp):Src->List V->Prop
 | .lst a,xs=>SqL K H a xs
 | .tup a,xs=>SqT K H a xs
 | .str l,xs=>xs=l.map fun c=>JR<|sOf [c]
def Src.at(it:Addr)(i:Nat)(h:Heap):Src->Prop
 | .lst a=>h.IsListIter it a i
 | .tup a=>h.IsTupleIter it a i
 | .str l=>∃t,h.IsStrIter it "str_ascii_iterator" (sOf l) t i\/h.IsStrIter it "str_iterator" (sOf l) t i
def Src.val:Src->V
 | .lst a=>.ref a
 | .tup a=>.ref a
 | .str l=>.str<|sOf l
section
variable{P:E4}{w:E8}{A:EB}{E:DM->DN->Prop}{s:DN}
theorem lN{j a:Addr}{k:Nat}{us:Array DM}{x:DM}{Q:DM->DN->Prop}(g:s.heap.IsTupleIter j a k)(ga:s.heap.IsTuple a us)(gx:us[k]? =some x)
  (q:∀h',h'.IsTupleIter j a (k+1)->E6 j s.heap h'->Q x {s with heap:=h'}):wpAny (model P w) A (Eg<|.ref j) Q E s:=by
 obtain⟨ob,e1,e2,e3⟩:=id g;obtain⟨ot,f1,_,nn,f3⟩:=ga;unfold Eg;refine DF<|ET (name:=DP "__next__") g.typeIs FY<|EH FY g.typeIs HX ?_<|HR _;show wpAny (model P w) _ (field (.ref j) 0>>=_) _ _ s;refine DF<|EW e1 e3 (x:=.ref a) rfl ?_;show wpAny (model P w) _ (if(F1 a==Fc)=true then _ else _) _ _ s;rw[if_neg (show ¬((F1 a==Fc)=true)from E3)];show wpAny (model P w) _ (field (.ref j) 1>>=_) _ _ s;refine DF<|EW e1 e3 (x:=.int k 0) rfl ?_;show wpAny (model P w) _ (seqItems? (.ref a)>>=_) _ _ s;refine DF<|ER f1 f3 ?_;simp only[Fj,gx];refine DF (GP e1 e3 (by simp) (DL ⟨x,rfl,DL (q _ ⟨_,FN _ e1<|Obj.isFreed_of_fields<|L6 e3 _,(Obj.cls_mapFields ..).trans e2,(by rw[L6 e3];simp[rawInt])⟩<|F8 ..)⟩))
theorem mZ{j a:Addr}{k:Nat}{us:Array DM}{Q:DM->DN->Prop}(hh:A.handled=none)(g:s.heap.IsTupleIter j a k)(ga:s.heap.IsTuple a us)(gx:us[k]? =none)
  (q:∀h' e,Hx j s.heap h'->(∃o,h'.get? e=some o/\o.cls=.type "StopIteration")->E (.ref e) {s with heap:=h'}):wpAny (model P w) A (Eg<|.ref j) Q E s:=by
 obtain⟨ob,e1,e2,e3⟩:=id g;obtain⟨ot,f1,_,nn,f3⟩:=ga;unfold Eg;refine DF<|ET (name:=DP "__next__") g.typeIs FY<|EH FY g.typeIs HX ?_<|HR _;show wpAny (model P w) _ (field (.ref j) 0>>=_) _ _ s;refine DF<|EW e1 e3 (x:=.ref a) rfl ?_;show wpAny (model P w) _ (if(F1 a==Fc)=true then _ else _) _ _ s;rw[if_neg (show ¬((F1 a==Fc)=true)from E3)];show wpAny (model P w) _ (field (.ref j) 1>>=_) _ _ s;refine DF<|EW e1 e3 (x:=.int k 0) rfl ?_;show wpAny (model P w) _ (seqItems? (.ref a)>>=_) _ _ s;refine DF<|ER f1 f3 ?_;simp only[Fj,gx];refine DF (G6 (DF (GP e1 e3 (by simp) ?_)));show wpAny (model P w) _ (newExc (.type "StopIteration") []>>=_) _ _ _;refine DF ?_;simp only[newExc,newTuple];refine DF (F4 (DF (m:=firstArgMember _ _) (Kv (a:=Fc) (by first|rfl|(simp only[firstArgMember];rfl)) (F4 ?_ (by size_fits)))) (by size_fits));simp only[raiseNew];refine DF<|KL ?_
 first|rw[show A.in1.handled=none from hh]|rw[hh]
 exact DF<|DL<|LK<|q _ _ (((F8 ..).extBut.push _).push _) ⟨_,DS _ rfl,rfl⟩
theorem tT(hh:A.handled=none)(j a:Addr)(ne:a≠j)(us:Array DM):K6 P w A j [j,a] us.size (fun k v=>us[k]? =some v) (fun k h=>h.IsTupleIter j a k/\h.IsTuple a us) where
 live:=fun _ _ st=>by obtain⟨⟨o,e,_⟩,_⟩:=st;exact⟨o,e⟩
 frame:=fun _ _ _ st hk=>⟨st.1.at fun o e=>hk j (by simp) o e,by obtain⟨o,e,r⟩:=st.2;exact⟨o,hk a (by simp) o e,r⟩⟩
 item:=fun k s Q E hk st q=>lN st.1 st.2 (x:=us[k]) (by simp[hk]) fun h' g' sb=>q _ h' s.toks (by simp[hk]) ⟨g',by obtain⟨o,e,r⟩:=st.2;exact⟨o,(sb.2 a ne).trans e,r⟩⟩ sb
 done:=fun s Q E st q=>mZ hh st.1 st.2 (by simp) q
theorem Src.draws{X:Cx}{pins:List (Addr×Obj)}{σ:St}{H:Hp}{s0:DN}{c:Src}{xs:List V}{it:Addr}{i:Nat}(hh:A.handled=none)(I:Inv X pins σ H s0)(hs:c.has X.K H xs)(ht:c.at it i s0.heap)(hit:H it=none):
  ∃(fp:List Addr)(Pt:Nat->DM->Prop)(St:Nat->Heap->Prop),K6 X.prog X.w A it fp xs.length Pt St/\St i s0.heap/\(∀k v,Pt k v-> ∃x,xs[k]? =some x/\RelV x v)/\(∀k h,St k h->c.at it k h)/\it∈fp/\
   ∀b∈fp,b=it\/H b≠none\/∃o,X.base.get? b=some o:=by
 cases c with
 |lst a=>
  obtain⟨its,rv,p,hz⟩:=I.list hs;have ne:a≠it:=fun z=>by
   obtain⟨o,e,c1,_⟩:=(show s0.heap.IsListIter it a i from ht)
   obtain⟨o2,e2,c2,_⟩:=p.isList;rw[z,e]at e2;cases e2;rw[c1]at c2;exact absurd c2 (by decide)
  have dr:=Draws.list (prog:=X.prog) (w:=X.w) hh it a ne its.toArray;rw[DY,<-rv.length]at dr;refine⟨_,_,_,dr,⟨ht,p.isList⟩,fun k v e=>?_,fun k h st=>st.1,by simp,fun b hb=>?_⟩
  ·have e:its[k]? =some v:=by simpa using e
   have hk:k<xs.length:=by rw[rv.length];exact(DR.mp e).1
   obtain⟨u,hu,ru⟩:=rv.get (i:=k) (x:=xs[k]) (by simp[hk]);rw[e]at hu;cases hu;exact⟨_,by simp[hk],ru⟩
  ·rcases E1.mp hb with z | z;·exact .inl z
   ·have z:b=a:=by simpa using z
    subst z;rcases (show SqL X.K H b xs from hs)with(z|⟨o,z⟩)|⟨o,_,_,z,_⟩
    ·exact .inr (.inl (by rw[z];simp))
    ·exact .inr (.inl (by rw[z];simp))
    ·exact .inr<|.inr ⟨_,I.mod.kin _ _ z⟩
 |tup a=>
  obtain⟨its,rv,p,hz⟩:=I.tuple hs;have p:s0.heap.IsTuple a its.toArray:=p;have ne:a≠it:=fun z=>by
   obtain⟨o,e,c1,_⟩:=(show s0.heap.IsTupleIter it a i from ht)
   obtain⟨o2,e2,c2,_⟩:=id p;rw[z,e]at e2;cases e2;rw[c1]at c2;exact absurd c2 (by decide)
  have dr:=tT (P:=X.prog) (w:=X.w) hh it a ne its.toArray;rw[DY,<-rv.length]at dr;refine⟨_,_,_,dr,⟨ht,p⟩,fun k v e=>?_,fun k h st=>st.1,by simp,fun b hb=>?_⟩
  ·have e:its[k]? =some v:=by simpa using e
   have hk:k<xs.length:=by rw[rv.length];exact(DR.mp e).1
   obtain⟨u,hu,ru⟩:=rv.get (i:=k) (x:=xs[k]) (by simp[hk]);rw[e]at hu;cases hu;exact⟨_,by simp[hk],ru⟩
  ·rcases E1.mp hb with z | z;·exact .inl z
   ·have z:b=a:=by simpa using z
    subst z;rcases (show SqT X.K H b xs from hs)with(z|⟨o,z⟩)|⟨o,_,_,z,_⟩
    ·exact .inr (.inl (by rw[z];simp))
    ·exact .inr (.inl (by rw[z];simp))
    ·exact .inr<|.inr ⟨_,I.mod.kin _ _ z⟩
 |str l=>
  have hs:xs=l.map fun c=>JR (sOf [c]):=hs;obtain⟨t,ht⟩:=(show ∃t,s0.heap.IsStrIter it "str_ascii_iterator" (sOf l) t i\/s0.heap.IsStrIter it "str_iterator" (sOf l) t i from ht)
  have hn:(sOf l).cps.size=xs.length:=by rw[hs];simp[sOf]
  have sg:∀(k:Nat)(v:DM),(∃c u,(sOf l).cps[k]? =some c/\v=.str ⟨#[c]⟩ u)->∃x,xs[k]? =some x/\RelV x v:=fun k v⟨c,u,e,ev⟩=>by
   have e:l[k]? =some c:=by simpa [sOf] using e
   exact⟨.str<|sOf [c],by rw[hs];simp[e],⟨u,ev⟩⟩
  rcases ht with ht|ht;·exact⟨_,_,_,hn▸Draws.strAscii hh it (sOf l) t,ht,sg,fun k h st=>⟨t,.inl st⟩,by simp,fun b hb=>.inl (by simpa using hb)⟩
  ·exact⟨_,_,_,hn▸Draws.strWide hh it (sOf l) t,ht,sg,fun k h st=>⟨t,.inr st⟩,by simp,fun b hb=>.inl (by simpa using hb)⟩
end
def eA(v:DM)(h:Heap)(o:Obj):Prop:=∀(prog:E4)(w:E8)(A:EB)(E:DM->DN->Prop)(Q:DM->DN->Prop)(s:DN),s.heap=h->Q (.ref h.objs.size) {s with heap:=h.push o}->wpAny (model prog w) A (pyIter v) Q E s
def AE(h:Heap)(o1 o2:Obj):Heap:=((h.push o1).push o2).push {cls:=.type "tuple",data:=.seq #[.ref h.objs.size,.ref (h.push o1).objs.size]}
def AF(h:Heap)(o1 o2:Obj):Heap:=(AE h o1 o2).push {cls:=.type "tuple",data:=.seq #[.none,.none]}
def A5(h:Heap)(o1 o2:Obj):Heap:=(AF h o1 o2).push {cls:=.type "zip",data:=.fields #[.none,.bool false,.bool false,.ref ((h.push o1).push o2).objs.size,.ref (AE h o1 o2).objs.size]}
theorem lO(v1 v2:DM)(o1 o2:Obj):Meets (Fw.«zip.__new__» ⟨[.type "zip",v1,v2],[]⟩) (fun _ R s=>eA v1 s.heap o1/\eA v2 (s.heap.push o1) o2/\R (.ok<|.ret<|.ref (AF s.heap o1 o2).objs.size) {s with heap:=A5 s.heap o1 o2}):=
 .of_wp fun prog w A R s h=>by
  obtain⟨hp,g,d,tk,os⟩:=s;obtain⟨i1,i2,h⟩:=h;have hsub:=sub_zip;have j1:=fun(A:EB)(E:DM->DN->Prop)(Q:DM->DN->Prop)(q:Q _ _)=>i1 prog w A E Q ⟨hp,g,d,tk,os⟩ rfl q;have j2:=fun(A:EB)(E:DM->DN->Prop)(Q:DM->DN->Prop)(q:Q _ _)=>i2 prog w A E Q ⟨hp.push o1,g,d,tk,os⟩ rfl q
  wp_walk using j1 _ _ _,j2 _ _ _
  exact⟨_,rfl,h⟩
theorem rl{P:E4}{w:E8}{A:EB}{E:DM->DN->Prop}{s:DN}{v1 v2:DM}{o1 o2:Obj}{Q:DM->DN->Prop}(i1:eA v1 s.heap o1)(i2:eA v2 (s.heap.push o1) o2)
  (f1:o1.isFreed=false) (f2:o2.isFreed=false)
  (q:∀h',H9 h' (s.heap.objs.size+4) (s.heap.objs.size+2) (s.heap.objs.size+3) .none->HS h' (s.heap.objs.size+2) (.ref s.heap.objs.size) (.ref<|s.heap.objs.size+1)->HS h' (s.heap.objs.size+3) .none .none->
   h'.get? s.heap.objs.size=some o1->h'.get? (s.heap.objs.size+1)=some o2->(∀c o,s.heap.get? c=some o->h'.get? c=some o)->Q (.ref (s.heap.objs.size+4)) {s with heap:=h'}):
  wpAny (model P w) A (call (.type "zip") [v1,v2]) Q E s:=by
 refine callType_new L7 (by decide) (PySem.F.typeCall_zip_2 _ _) (PySem.F.newCall_zip_2 _ _) (fun obj=>PySem.F.args_object_init_3 obj _ _) Kc (lO v1 v2 o1 o2) ⟨i1,i2,?_⟩;have z1:(s.heap.push o1).objs.size=s.heap.objs.size+1:=EX ..;have z2:((s.heap.push o1).push o2).objs.size=s.heap.objs.size+2:=by rw[EX,z1]
 have z3:(AE s.heap o1 o2).objs.size=s.heap.objs.size+3:=by unfold AE;rw[EX,z2]
 have z4:(AF s.heap o1 o2).objs.size=s.heap.objs.size+4:=by unfold AF;rw[EX,z3]
 have g5:(A5 s.heap o1 o2).get? (AF s.heap o1 o2).objs.size=some _:=DS _ rfl;have g4:(A5 s.heap o1 o2).get? (AE s.heap o1 o2).objs.size=some _:=DH _<|DS _ rfl;have g3:(A5 s.heap o1 o2).get? ((s.heap.push o1).push o2).objs.size=some _:=DH _<|DH _<|DS _ rfl;have g2:(A5 s.heap o1 o2).get? (s.heap.push o1).objs.size=some o2:=DH _<|DH _<|DH _<|DS _ f2;have g1:(A5 s.heap o1 o2).get? s.heap.objs.size=some o1:=DH _<|DH _<|DH _<|DH _<|DS _ f1;show _/\_;rw[z2,z3,z4]at g5;rw[z1,z2]at g3;rw[z3]at g4;rw[z1]at g2;rw[z4];exact⟨⟨_,g5,rfl⟩,q _ g5 g3 g4 g1 g2 fun c o x=>DH _<|DH _<|DH _<|DH _<|DH _ x⟩
theorem Src.iter{X:Cx}{pins:List (Addr×Obj)}{σ:St}{H:Hp}{s:DN}{c:Src}{xs:List V}{v:DM}{h:Heap}(I:Inv X pins σ H s)(hs:c.has X.K H xs)(rv:RelV c.val v)(k:∀b o,s.heap.get? b=some o->h.get? b=some o):
  ∃o,eA v h o/\o.isFreed=false/\(∀h':Heap,h'.get? h.objs.size=some o->c.at h.objs.size 0 h'):=by
 cases c with
 |lst a=>
  obtain⟨its,r,p,hz⟩:=I.list hs;cases (show v=.ref a from rv);obtain⟨o,e,r2⟩:=p.isList;refine⟨{cls:=.type "list_iterator",data:=.fields #[.ref a,.int 0 0]},fun prog w A E Q s' e' q=>?_,rfl,fun h' e'=>⟨_,e',rfl,rfl⟩⟩;subst e';exact Jo ⟨o,k a o e,r2⟩ q
 |tup a=>
  obtain⟨its,r,p,hz⟩:=I.tuple hs;cases (show v=.ref a from rv);obtain⟨o,e,r2⟩:=p;refine⟨{cls:=.type "tuple_iterator",data:=.fields #[.ref a,.int 0 0]},fun prog w A E Q s' e' q=>?_,rfl,fun h' e'=>⟨_,e',rfl,rfl⟩⟩;subst e';exact KU ⟨o,k a o e,r2⟩ q
 |str l=>
  obtain⟨t,rfl⟩:=(show ∃t,v=.str (sOf l) t from rv)
  cases ha:(sOf l).cps.all (· <128);·exact⟨{cls:=.type "str_iterator",data:=.fields #[.str (sOf l) t,.int 0 0]},fun prog w A E Q s' e' q=>by subst e';exact Li ha q,rfl,fun h' e'=>⟨t,.inr ⟨_,e',rfl,rfl⟩⟩⟩
  ·exact⟨{cls:=.type "str_ascii_iterator",data:=.fields #[.str (sOf l) t,.int 0 0]},fun prog w A E Q s' e' q=>by subst e';exact L4 ha q,rfl,fun h' e'=>⟨t,.inl ⟨_,e',rfl,rfl⟩⟩⟩
section
variable{P:E4}{w:E8}{A:EB}{E:DM->DN->Prop}{s:DN}{z TI TO i1 i2:Addr}{fp1 fp2:List Addr}{n1 n2 k:Nat}{P1 P2:Nat->DM->Prop}{S1 S2:Nat->Heap->Prop}{a b:DM}
structure ZApart(z TI TO i1 i2:Addr)(fp1 fp2:List Addr):Prop where
 c1:TI≠z
 c2:TO≠z
 c3:i1≠z
 c4:i2≠z
 c5:TI≠TO
 c6:TI≠i1
 c7:TI≠i2
 c8:TO≠i1
 c9:TO≠i2
 d1:z∉fp1/\TO∉fp1/\i2∉fp1
 d2:z∉fp2/\TO∉fp2/\i1∉fp2
theorem az{n:Nat}{it:Addr}{fp:List Addr}{Pt:Nat->DM->Prop}{S:Nat->Heap->Prop}(D:K6 P w A it fp n Pt S){j:Nat}{h h':Heap}{c:Addr}(st:S j h)(sb:E6 c h h')(hc:c∉fp):S j h':=
 D.frame _ _ _ st fun b hb o e=>(sb.2 b fun q=>hc<|q▸hb).trans e
theorem rm{Q:Option DM->DN->Prop}(D1:K6 P w A.in1 i1 fp1 n1 P1 S1)(D2:K6 P w A.in1 i2 fp2 n2 P2 S2)(Z:ZApart z TI TO i1 i2 fp1 fp2)(h1:k<n1)(h2:k<n2)(hz:H9 s.heap z TI TO .none)
  (hI:HS s.heap TI (.ref i1) (.ref i2)) (hO:HS s.heap TO a b) (t1:S1 k s.heap) (t2:S2 k s.heap)
  (q:∀x y h' tk T,P1 k x->P2 k y->T=s.heap.objs.size->H9 h' z TI TO (rawInt T)->HS h' TO x y->S1 (k+1) h'->S2 (k+1) h'->HS h' T x y->
   (∀c o,c≠z->c≠TO->c≠i1->c≠i2->s.heap.get? c=some o->h'.get? c=some o)->Q (some (.ref T)) {s with heap:=h',toks:=tk}):
  wpAny (model P w) A (pyNext<|.ref z) Q E s:=by
 have hT:s.TypeIs (.ref z) "zip":=⟨_,hz,rfl⟩
 unfold pyNext;refine DF<|Gr<|ET (name:=DP "__next__") hT Ft<|EH Ft hT Hf ?_<|GQ _;obtain⟨hp,gg,dd,tk0,os⟩:=s;show wpAny (model P w) _ (field (.ref z) 2>>=_) _ _ _;refine DF<|EW hz rfl (x:=.bool false) rfl ?_;show wpAny (model P w) _ (field (.ref z) 3>>=_) _ _ _;refine DF<|EW hz rfl (x:=.ref TI) rfl<|DF<|ER hI rfl ?_;show wpAny (model P w) _ (Ey (.ref z)>>=_) _ _ _;refine DF ?_;unfold Ey;refine DF<|EW hz rfl (x:=.none) rfl<|DL ?_;simp only[if_true];refine DF (G6 (DF (EW hz rfl (x:=.ref TO) rfl (DF (EU hz (by simp) fun g1 y1 b1=>?_)))));replace y1:H9 g1 z TI TO .ellipsis:=y1;replace b1:E6 z hp g1:=b1;refine DF ?_;simp only[HG,IM,HP,Ia];refine DF<|DF<|Gb ?_;show wpAny (model P w) _ (Eg (.ref i1)>>=_) _ _ _;refine DF<|D1.item k _ _ _ h1 (az D1 t1 b1 Z.d1.1) fun x g2 tk2 px u1 b2=>DL ?_;replace b2:E6 i1 g1 g2:=b2;have O2:HS g2 TO a b:=b2.extBut _ _ Z.c8<|b1.extBut _ _ Z.c2 hO;refine DF<|ER O2 rfl<|DF<|Iz O2 fun g3 O3 b3=>?_;replace O3:HS g3 TO x b:=O3;replace b3:E6 TO g2 g3:=b3;refine DF<|Hy<|DL<|DF<|DF<|Gb ?_;show wpAny (model P w) _ (Eg (.ref i2)>>=_) _ _ _;refine DF<|D2.item k _ _ _ h2 (az D2 (az D2 (az D2 t2 b1 Z.d2.1) b2 Z.d2.2.2) b3 Z.d2.2.1) fun y g4 tk4 py u2 b4=>DL ?_;replace b4:E6 i2 g3 g4:=b4;have O4:HS g4 TO x b:=b4.extBut _ _ Z.c9 O3;refine DF<|ER O4 rfl<|DF<|Iz O4 fun g5 O5 b5=>?_;replace O5:HS g5 TO x y:=O5;replace b5:E6 TO g4 g5:=b5;refine DF<|Hy<|DL<|DL<|DF<|ER O5 rfl<|DF<|Kw ?_;have sz:g5.objs.size=hp.objs.size:=by rw[b5.1,b4.1,b3.1,b2.1,b1.1]
 have y5:H9 g5 z TI TO .ellipsis:=b5.extBut _ _ Z.c2.symm<|b4.extBut _ _ Z.c4.symm<|b3.extBut _ _ Z.c2.symm<|b2.extBut _ _ Z.c3.symm y1;have k5:∀c o,c≠z->c≠TO->c≠i1->c≠i2->hp.get? c=some o->g5.get? c=some o:=fun c o e1 e2 e3 e4 e=>b5.extBut _ _ e2<|b4.extBut _ _ e4<|b3.extBut _ _ e2<|b2.extBut _ _ e3<|b1.extBut _ _ e1 e;have v1:S1 (k+1) g5:=az D1 (az D1 (az D1 u1 b3 Z.d1.2.1) b4 Z.d1.2.2) b5 Z.d1.2.1;have v2:S2 (k+1) g5:=az D2 u2 b5 Z.d2.2.1;have lz:z<g5.objs.size:=DW y5;show wpAny (model P w) _ (FH (.ref z) (.ref g5.objs.size)>>=_) _ _ _;refine DF ?_;unfold FH;have y6:H9 (g5.push {cls:=.type "tuple",data:=.seq #[x,y]}) z TI TO .ellipsis:=DH _ y5;refine DF (EU y6 (by simp) fun g7 y7 b7=>?_);replace y7:H9 g7 z TI TO (rawInt g5.objs.size):=y7;replace b7:E6 z (g5.push {cls:=.type "tuple",data:=.seq #[x,y]}) g7:=b7;refine EU y7 (by simp) fun g8 y8 b8=>?_;replace y8:H9 g8 z TI TO (rawInt g5.objs.size):=y8;replace b8:E6 z g7 g8:=b8;have up:∀c o,c≠z->g5.get? c=some o->g8.get? c=some o:=fun c o e1 e=>b8.extBut _ _ e1<|b7.extBut _ _ e1<|DH _ e;have T8:HS g8 g5.objs.size x y:=b8.extBut _ _ (Hc lz)<|b7.extBut _ _ (Hc lz)<|DS _ rfl;refine DL ⟨_,rfl,DL<|q x y g8 _ g5.objs.size px py sz y8 (up _ _ Z.c2 O5) (D1.frame _ _ _ v1 fun b hb o e=>up b o (fun q=>Z.d1.1<|q▸hb) e) (D2.frame _ _ _ v2 fun b hb o e=>up b o (fun q=>Z.d2.1<|q▸hb) e) T8 fun c o e1 e2 e3 e4 e=>up c o e1<|k5 c o e1 e2 e3 e4 e⟩
theorem tU{Q:Option DM->DN->Prop}(hh:A.handled=none)(D1:K6 P w A.in1 i1 fp1 n1 P1 S1)(D2:K6 P w A.in1 i2 fp2 n2 P2 S2)(Z:ZApart z TI TO i1 i2 fp1 fp2)(hk:k=n1\/(k<n1/\k=n2))(hz:H9 s.heap z TI TO .none)
  (hI:HS s.heap TI (.ref i1) (.ref i2)) (hO:HS s.heap TO a b) (t1:S1 k s.heap) (t2:S2 k s.heap)
  (q:∀h' tk,(∀c o,c≠z->c≠TO->c≠i1->c≠i2->s.heap.get? c=some o->h'.get? c=some o)->Q none {s with heap:=h',toks:=tk}):
  wpAny (model P w) A (pyNext<|.ref z) Q E s:=by
 have hT:s.TypeIs (.ref z) "zip":=⟨_,hz,rfl⟩
 unfold pyNext;refine DF<|Gr<|ET (name:=DP "__next__") hT Ft<|EH Ft hT Hf ?_<|GQ _;obtain⟨hp,gg,dd,tk0,os⟩:=s;show wpAny (model P w) _ (field (.ref z) 2>>=_) _ _ _;refine DF<|EW hz rfl (x:=.bool false) rfl ?_;show wpAny (model P w) _ (field (.ref z) 3>>=_) _ _ _;refine DF<|EW hz rfl (x:=.ref TI) rfl<|DF<|ER hI rfl ?_;show wpAny (model P w) _ (Ey (.ref z)>>=_) _ _ _;refine DF ?_;unfold Ey;refine DF<|EW hz rfl (x:=.none) rfl<|DL ?_;simp only[if_true];refine DF (G6 (DF (EW hz rfl (x:=.ref TO) rfl (DF (EU hz (by simp) fun g1 y1 b1=>?_)))));replace y1:H9 g1 z TI TO .ellipsis:=y1;replace b1:E6 z hp g1:=b1;refine DF ?_;simp only[HG,IM,HP,Ia];refine DF<|DF<|Gb ?_;show wpAny (model P w) _ (Eg (.ref i1)>>=_) _ _ _;rcases hk with hk|⟨hk1,hk2⟩
 ·subst hk;refine DF<|D1.done _ _ _ (az D1 t1 b1 Z.d1.1) fun g2 e b2 he=>?_;obtain⟨oe,hoe,hce⟩:=he;replace b2:Hx i1 g1 g2:=b2;have y2:H9 g2 z TI TO .ellipsis:=b2 _ _ Z.c3.symm y1;have ez:e≠z:=fun x=>by subst x;rw[y2]at hoe;cases hoe;simp at hce
  refine EU y2 (by simp) fun g3 _ b3=>?_;exact DF<|G7 (T:="StopIteration") (b:=true) ⟨oe,b3.extBut _ _ ez hoe,hce⟩ GR<|DL<|q g3 _ fun c o e1 _ e3 _ x=>b3.extBut _ _ e1<|b2 _ _ e3<|b1.extBut _ _ e1 x
 ·subst hk2;refine DF<|D1.item k _ _ _ hk1 (az D1 t1 b1 Z.d1.1) fun x g2 tk2 px u1 b2=>DL ?_;replace b2:E6 i1 g1 g2:=b2;have O2:HS g2 TO a b:=b2.extBut _ _ Z.c8<|b1.extBut _ _ Z.c2 hO;refine DF<|ER O2 rfl<|DF<|Iz O2 fun g3 O3 b3=>?_;replace b3:E6 TO g2 g3:=b3;refine DF<|Hy<|DL<|DF<|DF<|Gb ?_;show wpAny (model P w) _ (Eg (.ref i2)>>=_) _ _ _;refine DF<|D2.done _ _ _ (az D2 (az D2 (az D2 t2 b1 Z.d2.1) b2 Z.d2.2.2) b3 Z.d2.2.1) fun g4 e b4 he=>?_;obtain⟨oe,hoe,hce⟩:=he;replace b4:Hx i2 g3 g4:=b4;have y4:H9 g4 z TI TO .ellipsis:=b4 _ _ Z.c4.symm<|b3.extBut _ _ Z.c2.symm<|b2.extBut _ _ Z.c3.symm y1;have ez:e≠z:=fun x=>by subst x;rw[y4]at hoe;cases hoe;simp at hce
  refine EU y4 (by simp) fun g5 _ b5=>?_;exact DF<|G7 (T:="StopIteration") (b:=true) ⟨oe,b5.extBut _ _ ez hoe,hce⟩ GR<|DL<|q g5 _ fun c o e1 e2 e3 e4 x=>b5.extBut _ _ e1<|b4 _ _ e4<|b3.extBut _ _ e2<|b2.extBut _ _ e3<|b1.extBut _ _ e1 x
end
def CI(K:DJ)(c1 c2:Src):It:=
  ⟨fun i H=>∃xs ys x y,c1.has K H xs/\c2.has K H ys/\xs[i]? =some x/\ys[i]? =some y,
   fun i H v H'=>∃p x y,H p=none/\v=.ref p/\(∀xs,c1.has K H xs->xs[i]? =some x)/\(∀ys,c2.has K H ys->ys[i]? =some y)/\H'=cn H p (.tup [x,y]),
   fun i H=>∃xs ys,c1.has K H xs/\c2.has K H ys/\(i=xs.length\/(i<xs.length/\i=ys.length))⟩
theorem Src.inj{X:Cx}{pins:List (Addr×Obj)}{σ:St}{H:Hp}{s:DN}{c:Src}{xs ys:List V}(I:Inv X pins σ H s)(h1:c.has X.K H xs)(h2:c.has X.K H ys):xs=ys:=by
 cases c with
 |lst a=>exact I.list_inj h1 h2
 |tup a=>exact I.tuple_inj h1 h2
 |str l=>exact Eq.trans h1<|Eq.symm h2
theorem Src.at_keep{c:Src}{it:Addr}{i:Nat}{h h':Heap}(st:c.at it i h)(k:∀o,h.get? it=some o->h'.get? it=some o):c.at it i h':=by
 cases c with
 |lst a=>obtain⟨o,e,r⟩:=st;exact⟨o,k o e,r⟩
 |tup a=>obtain⟨o,e,r⟩:=st;exact⟨o,k o e,r⟩
 |str l=>
  obtain⟨t,st⟩:=st;rcases st with⟨o,e,r⟩|⟨o,e,r⟩
  ·exact⟨t,.inl ⟨o,k o e,r⟩⟩
  ·exact⟨t,.inr ⟨o,k o e,r⟩⟩
theorem Src.at_obj{c:Src}{it:Addr}{i:Nat}{h:Heap}(st:c.at it i h):∃o,h.get? it=some o/\∃vs,o.data=.fields vs:=by
 cases c with
 |lst a=>obtain⟨o,e,_,r⟩:=st;exact⟨o,e,_,r⟩
 |tup a=>obtain⟨o,e,_,r⟩:=st;exact⟨o,e,_,r⟩
 |str l=>
  obtain⟨t,st⟩:=st;rcases st with⟨o,e,_,r⟩|⟨o,e,_,r⟩
  ·exact⟨o,e,_,r⟩
  ·exact⟨o,e,_,r⟩
def CO(c1 c2:Src)(z TI TO i1 i2:Addr)(i:Nat)(h:Heap):Prop:=H9 h z TI TO .none/\HS h TI (.ref i1) (.ref i2)/\(∃a b,HS h TO a b)/\c1.at i1 i h/\c2.at i2 i h
structure ZIds(z TI TO i1 i2:Addr):Prop where
 c1:TI≠z
 c2:TO≠z
 c3:i1≠z
 c4:i2≠z
 c5:TI≠TO
 c6:TI≠i1
 c7:TI≠i2
 c8:TO≠i1
 c9:TO≠i2
 c10:i1≠i2
theorem tV{X:Cx}{pins:List (Addr×Obj)}{σ:St}{H:Hp}{s:DN}{z TI TO i1 i2:Addr}{fp1 fp2:List Addr}(I:Inv X pins σ H s)(Z:ZIds z TI TO i1 i2)(hf:∀b∈[z,TI,TO,i1,i2],FpOk X pins H b)
  (g1:∀b∈fp1,b=i1\/H b≠none\/∃o,X.base.get? b=some o) (g2:∀b∈fp2,b=i2\/H b≠none\/∃o,X.base.get? b=some o):ZApart z TI TO i1 i2 fp1 fp2:=by
 have no:∀b∈[z,TI,TO,i1,i2],¬(H b≠none\/∃o,X.base.get? b=some o):=fun b hb q=>by
  rcases q with q|⟨o,q⟩
  ·exact q (hf b hb).1
  ·rcases (hf b hb).2.2.2.1 with y | y;·exact I.ok.noex b o q y
   ·exact absurd (DV (DV (DW q) I.ok.bsz) y)<|Fi _
 refine⟨Z.c1,Z.c2,Z.c3,Z.c4,Z.c5,Z.c6,Z.c7,Z.c8,Z.c9,⟨fun m=>?_,fun m=>?_,fun m=>?_⟩,⟨fun m=>?_,fun m=>?_,fun m=>?_⟩⟩;·exact(g1 _ m).elim (fun e=>Z.c3 e.symm) (no z (by simp))
 ·exact(g1 _ m).elim (fun e=>Z.c8 e) (no TO (by simp))
 ·exact(g1 _ m).elim (fun e=>Z.c10 e.symm) (no i2 (by simp))
 ·exact(g2 _ m).elim (fun e=>Z.c4 e.symm) (no z (by simp))
 ·exact(g2 _ m).elim (fun e=>Z.c9 e) (no TO (by simp))
 ·exact(g2 _ m).elim (fun e=>Z.c10 e) (no i1 (by simp))
theorem tW{P:E4}{w:E8}{K:DJ}{elts:List Expr}{kk:Nat}{tp:Pos}(c1 c2:Src)(z TI TO i1 i2:Addr)(Z:ZIds z TI TO i1 i2):
  Turn P w K (.Tuple elts kk tp) (CI K c1 c2) [z,TI,TO,i1,i2] z (CO c1 c2 z TI TO i1 i2) where
 mem:=by simp
 obj:=fun i h st b hb=>by
  obtain⟨hz,hI,⟨a,b',hO⟩,t1,t2⟩:=st;obtain⟨o1,e1,v1,d1⟩:=Src.at_obj t1;obtain⟨o2,e2,v2,d2⟩:=Src.at_obj t2;simp only[E1,EA,or_false]at hb;rcases hb with rfl|rfl|rfl|rfl|rfl;·exact⟨_,hz,fun v q=>by cases (show Iw _=Hk v from q)⟩
  ·exact⟨_,hI,fun v q=>by cases (show Ku _ _=Hk v from q)⟩
  ·exact⟨_,hO,fun v q=>by cases (show Ku _ _=Hk v from q)⟩
  ·exact⟨_,e1,fun v q=>by rw[d1]at q;cases q⟩
  ·exact⟨_,e2,fun v q=>by rw[d2]at q;cases q⟩
 keep:=fun i h h' st k=>by
  obtain⟨hz,hI,⟨a,b',hO⟩,t1,t2⟩:=st;exact⟨k z (by simp) _ hz,k TI (by simp) _ hI,⟨a,b',k TO (by simp) _ hO⟩,Src.at_keep t1 (k i1 (by simp)),Src.at_keep t2 (k i2 (by simp))⟩
 item:=by
  intro X hP hw hK hc i pins s σ H E I hf st hg;subst hP hw hK;obtain⟨xs,ys,x,y,hx,hy,ex,ey⟩:=hg;obtain⟨hz,hI,⟨a,b',hO⟩,t1,t2⟩:=st;have hh:X.A.in1.handled=none:=I.ok.hd hc;obtain⟨fp1,P1,S1,D1,u1,r1,a1,_,g1⟩:=Src.draws (A:=X.A.in1) hh I hx t1 (hf i1 (by simp)).1;obtain⟨fp2,P2,S2,D2,u2,r2,a2,_,g2⟩:=Src.draws (A:=X.A.in1) hh I hy t2 (hf i2 (by simp)).1;have ZA:=tV I Z hf g1 g2;refine rm D1 D2 ZA (DR.mp ex).1 (DR.mp ey).1 hz hI hO u1 u2 fun vx vy h' tk T px py hT hz' hO' w1 w2 hTp kp=>?_;obtain⟨x',ex',rx⟩:=r1 i vx px;obtain⟨y',ey',ry⟩:=r2 i vy py;rw[ex]at ex';cases ex';rw[ey]at ey';cases ey';have nT:H T=none:=by rw[hT];exact I.hok.fresh<|DQ _
  refine⟨_,rfl,Ji hz' fun h2 hz2 sb=>?_⟩;have lt:∀{c o},s.heap.get? c=some o->c≠T:=fun e=>by rw[hT];exact Ed<|DW e
  have up:∀c o,c≠z->h'.get? c=some o->h2.get? c=some o:=fun c o hc e=>(sb.2 c hc).trans e;have kp2:∀b o,b∉[z,TO,i1,i2]->s.heap.get? b=some o->h2.get? b=some o:=fun b o hb e=>by
   simp only[E1,EA,or_false,not_or]at hb;exact up b o hb.1<|kp b o hb.1 hb.2.1 hb.2.2.1 hb.2.2.2 e
  have ch:∀b∈[z,TO,i1,i2],b∈[z,TI,TO,i1,i2]:=fun b hb=>by
   simp only[E1,EA,or_false]at hb ⊢;rcases hb with h|h|h|h<;>simp[h]
  have gp:∀b u,H b=some u->b∉[z,TO,i1,i2]/\b≠T:=fun b u e=>⟨fun hb=>(by rw[(hf b<|ch b hb).1]at e;cases e),fun q=>(by rw[q,nT]at e;cases e)⟩
  have I2:Inv X pins σ (cn H T<|.tup [x,y]) {s with heap:=h2,gens:=s.gens,drawn:=s.drawn,toks:=tk}:=by
   refine I.step (g':=s.gens) (d':=s.drawn) (t':=tk) (ch:=[z,TO,i1,i2]) (fun b hb=>⟨(hf b<|ch b hb).2.2.2.1,(hf b<|ch b hb).2.1,(hf b<|ch b hb).2.2.2.2.1,(hf b<|ch b hb).2.2.2.2.2⟩) (fun b o _ _ hb e _=>kp2 b o hb e) (fun b o _ _ hb e _=>⟨o.slots,kp2 b o hb e⟩)
    (fun b o hb e n=>by rw[aD<|lt e];exact n) (fun b o hb e=>⟨o,kp2 b o hb e⟩) (fun b xs e=>by rw[aD (gp b _ e).2];exact e) (fun b o u e=>by rw[aD (gp b _ e).2];exact e) (fun b ps e=>⟨#[],by rw[aD (gp b _ e).2,e];simp⟩) (fun m hm=>?_) (fun b u e=>?_) I.bare
   ·obtain⟨o,es,ep,ho,r⟩:=hm;exact⟨o,es,ep,kp2 _ o (fun hb=>(hf _<|ch _ hb).2.1 rfl) ho,r⟩
   ·by_cases hb:b=T
    ·subst hb;rw[aI]at e;cases e;refine⟨(by show 2<=sizeLine;rw[F3];decide),[vx,vy],.cons rx<|.cons ry .nil,⟨_,up _ _ ?_ hTp,⟨rfl,rfl⟩,_,rfl⟩⟩;exact fun q=>lt hz q.symm
    ·rw[aD hb]at e;refine(I.hok b u e).stay (fun c v hc q=>kp2 c v ?_ q) (fun c q=>by rw[aD (gp c _ q).2];exact q) fun c xs q=>by rw[aD (gp c _ q).2];exact q
     rcases hc with q|q;·rw[q];exact(gp b u e).1
     ·exact(gp c _ q).1
  refine⟨.ref T,_,I2,rfl,⟨T,x,y,nT,rfl,fun xs' h=>by rw[Src.inj I h hx];exact ex,fun ys' h=>by rw[Src.inj I h hy];exact ey,rfl⟩,⟨hz2,up _ _ Z.c1<|kp _ _ Z.c1 Z.c5 Z.c6 Z.c7 hI,⟨_,_,up _ _ Z.c2 hO'⟩,Src.at_keep (a1 _ _ w1) fun o e=>up _ o Z.c3 e,Src.at_keep (a2 _ _ w2) fun o e=>up _ o Z.c4 e⟩,fun b hb=>?_⟩;have hbT:b≠T:=by
   obtain⟨o,e⟩:∃o,s.heap.get? b=some o:=by
    obtain⟨o1,e1,_⟩:=Src.at_obj t1;obtain⟨o2,e2,_⟩:=Src.at_obj t2;simp only[E1,EA,or_false]at hb;rcases hb with rfl|rfl|rfl|rfl|rfl;·exact⟨_,hz⟩
    ·exact⟨_,hI⟩
    ·exact⟨_,hO⟩
    ·exact⟨_,e1⟩
    ·exact⟨_,e2⟩
   exact lt e
  rw[aD hbT];exact(hf b hb).1
 done:=by
  intro X hP hw hK hc i pins s σ H E I hf st hg;subst hP hw hK;obtain⟨xs,ys,hx,hy,hend⟩:=hg;obtain⟨hz,hI,⟨a,b',hO⟩,t1,t2⟩:=st;have hh:X.A.in1.handled=none:=I.ok.hd hc;obtain⟨fp1,P1,S1,D1,u1,r1,a1,_,g1⟩:=Src.draws (A:=X.A.in1) hh I hx t1 (hf i1 (by simp)).1;obtain⟨fp2,P2,S2,D2,u2,r2,a2,_,g2⟩:=Src.draws (A:=X.A.in1) hh I hy t2 (hf i2 (by simp)).1;have ZA:=tV I Z hf g1 g2;have ch:∀b∈[z,TO,i1,i2],b∈[z,TI,TO,i1,i2]:=fun b hb=>by
   simp only[E1,EA,or_false]at hb ⊢;rcases hb with h|h|h|h<;>simp[h]
  refine tU hh D1 D2 ZA hend hz hI hO u1 u2 fun h2 tk kp=>⟨rfl,?_⟩
  have kp2:∀b o,b∉[z,TO,i1,i2]->s.heap.get? b=some o->h2.get? b=some o:=fun b o hb e=>by
   simp only[E1,EA,or_false,not_or]at hb;exact kp b o hb.1 hb.2.1 hb.2.2.1 hb.2.2.2 e
  refine I.step (g':=s.gens) (d':=s.drawn) (t':=tk) (ch:=[z,TO,i1,i2]) (fun b hb=>⟨(hf b<|ch b hb).2.2.2.1,(hf b<|ch b hb).2.1,(hf b<|ch b hb).2.2.2.2.1,(hf b<|ch b hb).2.2.2.2.2⟩) (fun b o _ _ hb e _=>kp2 b o hb e) (fun b o _ _ hb e _=>⟨o.slots,kp2 b o hb e⟩)
   (fun b o hb e n=>n) (fun b o hb e=>⟨o,kp2 b o hb e⟩) (fun b xs e=>e) (fun b o u e=>e) (fun b ps e=>⟨#[],by rw[e];simp⟩) (fun m hm=>?_) (fun b u e=>?_) I.bare
  ·obtain⟨o,es,ep,ho,r⟩:=hm;exact⟨o,es,ep,kp2 _ o (fun hb=>(hf _<|ch _ hb).2.1 rfl) ho,r⟩
  ·have gp:∀b u,H b=some u->b∉[z,TO,i1,i2]:=fun b u e hb=>by rw[(hf b<|ch b hb).1]at e;cases e
   refine(I.hok b u e).stay (fun c v hc q=>kp2 c v ?_ q) (fun c q=>q) fun c xs q=>q;rcases hc with q|q
   ·rw[q];exact gp b u e
   ·exact gp c _ q
 self:=fun _ _ _ _ _ st h=>Io st.1 h
theorem iY(n a b:Nat)(h:a≠b): @Ne Nat (n+a) (n+b):=fun e=>h<|Nat.add_left_cancel e
def zk(K:DJ)(t:TA):TI:=fun σ H R=>t σ H fun vs H1=>∃c1 c2 xs ys,vs=[c1.val,c2.val]/\c1.has K H1 xs/\c2.has K H1 ys/\R (CI K c1 c2) H1
theorem zl{X:Cx}{a b:Expr}{ta:TA}{p pos tp:Pos}{elts:List Expr}{kk:Nat}(hg:Gl X "zip")(hm:X.mg "zip"=none)(ha:PA X [a,b] ta)
  (hs:starEach [a,b] X.env=[(false,eval a X.env),(false,eval b X.env)]:=by rfl) (hs2:starEach [b] X.env=[(false,eval b X.env)]:=by rfl):PI X (.Tuple elts kk tp) (.Call (.Name "zip" p) [a,b] [] pos) (zk X.K ta):=by
 intro pins s σ H R I h;refine Nc (fw I hg hm boot_zip (F6 (bG (ha pos pins s σ H _ I h) fun us s1⟨vs,H1,I1,r1,q1⟩=>?_) (by rw[hs,hs2]) (by rw[hs2];rfl)));obtain⟨c1,c2,xs,ys,e,h1,h2,q⟩:=q1;subst e;obtain⟨v1,v2,rfl,ra,rb⟩:=pQ r1;obtain⟨o1,i1,f1,n1⟩:=Src.iter I1 h1 ra fun _ _ e=>e;obtain⟨o2,i2,f2,n2⟩:=Src.iter (h:=s1.heap.push o1) I1 h2 rb fun _ _ e=>DH _ e;have z1:(s1.heap.push o1).objs.size=s1.heap.objs.size+1:=EX ..;rw[z1]at n2;refine rl i1 i2 f1 f2 fun h' hz hI hO e1 e2 kp=>?_;refine Io hz ?_;have zi:∀n:Nat,ZIds (n+4) (n+2) (n+3) n (n+1):=fun n=>⟨(iY n 2 4 (by decide)),(iY n 3 4 (by decide)),(iY n 0 4 (by decide)),(iY n 1 4 (by decide)),(iY n 2 3 (by decide)),(iY n 2 0 (by decide)),(iY n 2 1 (by decide)),(iY n 3 0 (by decide)),(iY n 3 1 (by decide)),(iY n 0 1 (by decide))⟩
 refine⟨s1.heap.objs.size+4,[s1.heap.objs.size+4,s1.heap.objs.size+2,s1.heap.objs.size+3,s1.heap.objs.size,s1.heap.objs.size+1],_,_,H1,rfl,I1.kept (t':=s1.toks) kp,tW c1 c2 _ _ _ _ _<|zi s1.heap.objs.size,⟨hz,hI,⟨_,_,hO⟩,n1 h' e1,n2 h' e2⟩,fun b hb=>?_,q⟩;have hb':s1.heap.objs.size<=b:=by
  simp only[E1,EA,or_false]at hb;rcases hb with z|z|z|z|z<;>rw[z]
  ·exact Fe _ 4
  ·exact Fe _ 2
  ·exact Fe _ 3
  ·exact DQ _
  ·exact Fe _ 1
 exact I1.fpOk hb'<|I1.hok.fresh hb'
structure Cal(P:E4)(w:E8)(K:DJ)(mg:Str->Option DM)(base:Heap)(x:Str)(ps:List Str)(k:Nat)(sp:Sp):Prop where
 ex:∃(f:Addr)(fd:Ee),FnOk P w K mg base CX0 k f fd ps sp/\mg x=some (.ref f)/\Hv K (.ref f)=true/\Binds K fd ps []
theorem zm{X:Cx}{x:Str}{ps:List Str}{k:Nat}{sp:Sp}{p pos:Pos}{e:Expr}{es:List Expr}{t:TA}(C:Cal X.prog X.w X.K X.mg X.base x ps k sp)(hr:Room k X.A)(hg:Gl X x)(ha:PA X (e::es) t)
  (hdb:(x==("__debug__" :Str))=false:=by decide) (he:starEach (e::es) X.env=(false,eval e X.env)::starEach es X.env:=by rfl) (hpl:(backTo pos<|starEach es X.env).any (·.1)=false:=by rfl):
  PE X (.Call (.Name x p) (e::es) [] pos) (fJ sp [] E0 t):=by
 obtain⟨f,fd,F,hm,hk,hb⟩:=C.ex;exact wA F hr hg hm hk hb .nil AA ha hdb he hpl
theorem gZ{X:Cx}{scope:Hi}{N:List Str}{cap:List (Option Nat)}(kind:scope.kind=.function)(nd:N.Nodup)(len:cap.length=N.length)(uniq:(scope.names.map (·.1)).Nodup)
  (fr:(scope.names.all fun x=>x.2 != .free||(X.env.kindOf x.1==some .cell||X.env.kindOf x.1==some .free))=true)
  (cp:((N.zip cap).all fun p=>match p.2 with|none=>true|some j=>X.N[j]? ==some p.1&&scope.names.contains (p.1,Fs))=true):CompScope X scope N cap:=by
 refine⟨kind,nd,len,uniq,fun x hx hk=>?_,fun k x j h1 h2=>?_⟩
 ·have:=G8.mp fr x hx;rw[hk]at this;simpa using this
 ·have hm:(x,some j)∈N.zip cap:=by
   rw[Gw];exact⟨k,by rw[FE];exact⟨h1,h2⟩⟩
  have:=G8.mp cp _ hm;simpa using this
theorem cO{H:Hp}{p:Addr}{o:HO}(h:H p=none):Same H (cn H p o):=fun b u e=>by rw[aD<|bX e h];exact e
theorem eP(x:String)(l:List Nat)(h:(DP x).cps.toList=l):DP x=sOf l:=by rw[tN<|DP x,h]
section
variable{X:Cx}{K:DJ}{w:E8}
theorem aA(h:X.K=K):A4 X (zc K):=h▸zd
theorem aU(h:X.K=K):A4 X (wC K):=h▸wD
theorem aW(h:X.K=K):dE X (.builtin "len") (fun xs H Q=>∃x n,xs=[x]/\oB K x H n/\Q (.int n) H):=h▸tF
theorem bb(h:X.K=K):dE X (.builtin "isinstance") (fun xs H Q=>∃x T t b,xs=[x,.ty T]/\TyOf K H x t/\Hu K t (.type T)=some b/\Q (.bl b) H):=h▸mW
theorem tX(h:X.K=K):Aw X "str.join" (fun x xs H Q=>∃(p:Addr)(ys:List (List Nat)),x=.str (sOf [])/\xs=[.ref p]/\SqL K H p (ys.map fun y=>JR<|sOf y)/\ys.flatten.length<=100000/\Q (.str<|sOf ys.flatten) H):=h▸wI
theorem fV(h:X.K=K):Bw X (ze K):=h▸wF
theorem l4(h:X.K=K)(hw:X.w=w){o i:Expr}{pos:Pos}{td ty:TE}(ho:PE X o td)(hi:PE X i ty)(hs:tL i):PE X (.Subscript o i pos) (jB K w td ty):=h▸hw▸tO ho hi hs
theorem bt(h:X.K=K){pos:Pos}{es:List Expr}{k:Nat}{t:yo}{n:Nat}(hc:X.calm=true)(hg:An X es t)(hn:(assignEach es X.env).length=n:=by rfl)(hst:(assignEach es X.env).findIdx? (·.1)=none:=by rfl):PG X (.Tuple es k pos) (wt K n t):=h▸yT hc hg hn hst
theorem bu(h:X.K=K){tg l:Expr}{tl:TE}(hl:PE X l tl):PI X tg l (tu K tl):=h▸wx hl
theorem fD(h:X.K=K){a b:Expr}{ta:TA}{p pos tp:Pos}{elts:List Expr}{kk:Nat}(hg:Gl X "zip")(hm:X.mg "zip"=none)(ha:PA X [a,b] ta)
  (hs:starEach [a,b] X.env=[(false,eval a X.env),(false,eval b X.env)]:=by rfl) (hs2:starEach [b] X.env=[(false,eval b X.env)]:=by rfl):PI X (.Tuple elts kk tp) (.Call (.Name "zip" p) [a,b] [] pos) (zk K ta):=h▸zl hg hm ha hs hs2
theorem oM(h:X.K=K){o e:Expr}{es:List Expr}{to:TE}{t:TA}{name:Str}{apos cpos:Pos}{T id:String}{r:V->List V->Hp->VK->Prop}(pa:PlainAttrs T)(slot:Slot T name id)(hty:typeOf (.builtin id)=pure (.type "method_descriptor"))(hm:Aw X id r)(ho:PE X o to)(ha:PA X (e::es) t)
  (hbase:attributeBase o name X.env (eval o X.env)=eval o X.env:=by rfl)
  (hfew:((backTo cpos<|starEach (e::es) X.env).all (fun x=> !x.1)&&(backToKw cpos<|keywordEach [] X.env).all (fun x=>x.1.isSome)&&decide ((e::es).length+([]:List JW).length+(if([]:List JW).isEmpty then 0 else 1)<30))=true:=by rfl)
  (hline:(apos.endLine==cpos.line)=true:=by rfl) (hs:starEach (e::es) X.env=(false,eval e X.env)::starEach es X.env:=by rfl) (hplain:(backTo cpos<|starEach es X.env).any (·.1)=false:=by rfl):
  PE X (.Call (.Attribute o name apos) (e::es) [] cpos) (wH K T r to t):=h▸Ay pa slot hty hm ho ha hbase hfew hline hs hplain
end
def CJ(K:DJ)(a:Addr):It:=
  ⟨fun i H=>∃xs x,SqL K H a xs/\xs[i]? =some x,
   fun i H v H'=>∃p x,H p=none/\v=.ref p/\(∀xs,SqL K H a xs->xs[i]? =some x)/\H'=cn H p (.tup [.int i,x]),
   fun i H=>∃xs,SqL K H a xs/\xs.length=i⟩
def CP(a e it:Addr)(i:Nat)(h:Heap):Prop:=(∃old,IsEnum h e it i old)/\h.IsListIter it a i
theorem rn{P:E4}{w:E8}{K:DJ}{elts:List Expr}{kk:Nat}{tp:Pos}(a e it:Addr)(ne:e≠it):Turn P w K (.Tuple elts kk tp) (CJ K a) [e,it] e (CP a e it) where
 mem:=by simp
 obj:=fun i h st b hb=>by
  obtain⟨⟨old,he⟩,t1⟩:=st;obtain⟨o1,e1,v1,d1⟩:=Src.at_obj (c:=.lst a) t1;simp only[E1,EA,or_false]at hb;rcases hb with rfl|rfl;·exact⟨_,he,fun v q=>by cases (show Iw _=Hk v from q)⟩
  ·exact⟨_,e1,fun v q=>by rw[d1]at q;cases q⟩
 keep:=fun i h h' st k=>by
  obtain⟨⟨old,he⟩,t1⟩:=st;exact⟨⟨old,k e (by simp) _ he⟩,Src.at_keep (c:=.lst a) t1 (k it (by simp))⟩
 item:=by
  intro X hP hw hK hc i pins s σ H E I hf st hg;subst hP hw hK;obtain⟨xs,x,hx,ex⟩:=hg;obtain⟨⟨old,he⟩,t1⟩:=st;have hh:X.A.in1.handled=none:=I.ok.hd hc;obtain⟨fp1,P1,S1,D1,u1,r1,a1,_,g1⟩:=Src.draws (A:=X.A.in1) (c:=.lst a) hh I hx t1 (hf it (by simp)).1;have nof:e∉fp1:=fun m=>by
   rcases g1 e m with q|q|⟨o,q⟩
   ·exact ne q
   ·exact q (hf e (by simp)).1
   ·rcases (hf e (by simp)).2.2.2.1 with y | y;·exact I.ok.noex e o q y
    ·exact absurd (DV (DV (DW q) I.ok.bsz) y)<|Fi _
  refine wpAny_pyNext_enum_itemD D1 he u1 (DR.mp ex).1 ne nof fun vx h' tk px ho w1 hTp hsz kp=>?_;obtain⟨x',ex',rx⟩:=r1 i vx px;rw[ex]at ex';cases ex';have nT:H s.heap.objs.size=none:=I.hok.fresh<|DQ _;refine⟨_,rfl,wpAny_letOwnedTupleGo_enum ho fun h2 he2 sb=>?_⟩;have lt:∀{c o},s.heap.get? c=some o->c≠s.heap.objs.size:=fun e=>Ed<|DW e;have kp2:∀b o,b∉[e,it]->s.heap.get? b=some o->h2.get? b=some o:=fun b o hb q=>by
   simp only[E1,EA,or_false,not_or]at hb;exact(sb.2 b hb.1).trans (kp b o hb.1 hb.2 q)
  have gp:∀b u,H b=some u->b∉[e,it]/\b≠s.heap.objs.size:=fun b u q=>⟨fun hb=>(by rw[(hf b hb).1]at q;cases q),fun z=>(by rw[z,nT]at q;cases q)⟩
  have I2:Inv X pins σ (cn H s.heap.objs.size<|.tup [.int i,x]) {s with heap:=h2,gens:=s.gens,drawn:=s.drawn,toks:=tk+1}:=by
   refine I.step (g':=s.gens) (d':=s.drawn) (t':=tk+1) (ch:=[e,it]) (fun b hb=>⟨(hf b hb).2.2.2.1,(hf b hb).2.1,(hf b hb).2.2.2.2.1,(hf b hb).2.2.2.2.2⟩) (fun b o _ _ hb q _=>kp2 b o hb q) (fun b o _ _ hb q _=>⟨o.slots,kp2 b o hb q⟩)
    (fun b o hb q n=>by rw[aD<|lt q];exact n) (fun b o hb q=>⟨o,kp2 b o hb q⟩) (fun b xs q=>by rw[aD (gp b _ q).2];exact q) (fun b o u q=>by rw[aD (gp b _ q).2];exact q) (fun b ps q=>⟨#[],by rw[aD (gp b _ q).2,q];simp⟩) (fun m hm=>?_) (fun b u q=>?_) I.bare
   ·obtain⟨o,es,ep,ho',r⟩:=hm;exact⟨o,es,ep,kp2 _ o (fun hb=>(hf _ hb).2.1 rfl) ho',r⟩
   ·by_cases hb:b=s.heap.objs.size
    ·subst hb;rw[aI]at q;cases q;refine⟨(by show 2<=sizeLine;rw[F3];decide),[.int i tk,vx],.cons ⟨_,rfl⟩<|.cons rx .nil,⟨_,(sb.2 _ ?_).trans hTp,⟨rfl,rfl⟩,_,rfl⟩⟩;exact fun z=>lt he z.symm
    ·rw[aD hb]at q;refine(I.hok b u q).stay (fun c v hc z=>kp2 c v ?_ z) (fun c z=>by rw[aD (gp c _ z).2];exact z) fun c xs z=>by rw[aD (gp c _ z).2];exact z
     rcases hc with z|z;·rw[z];exact(gp b u q).1
     ·exact(gp c _ z).1
  refine⟨.ref s.heap.objs.size,_,I2,rfl,⟨_,x,nT,rfl,fun xs' h=>by rw[I.list_inj h hx];exact ex,rfl⟩,⟨⟨_,by simpa using he2⟩,Src.at_keep (c:=.lst a) (a1 _ _ w1) fun o q=>(sb.2 _<|HN ne).trans q⟩,fun b hb=>?_⟩;have hbT:b≠s.heap.objs.size:=by
   obtain⟨o1,e1,_⟩:=Src.at_obj (c:=.lst a) t1;simp only[E1,EA,or_false]at hb;rcases hb with rfl|rfl;·exact lt he
   ·exact lt e1
  rw[aD hbT];exact(hf b hb).1
 done:=by
  intro X hP hw hK hc i pins s σ H E I hf st hg;subst hP hw hK;obtain⟨xs,hx,hl⟩:=hg;obtain⟨⟨old,he⟩,t1⟩:=st;have hh:X.A.in1.handled=none:=I.ok.hd hc;obtain⟨fp1,P1,S1,D1,u1,r1,a1,_,g1⟩:=Src.draws (A:=X.A.in1) (c:=.lst a) hh I hx t1 (hf it (by simp)).1;subst hl;obtain⟨f0,f1,f2,f3,f4,f5⟩:=hf it (by simp);exact wpAny_pyNext_enum_endD D1 he u1 fun h' hx'=>⟨rfl,I.turned (t':=s.toks) (fun b o hb q=>hx' b o hb q) f0 f1 f3 f4 f5⟩
 self:=fun _ _ _ _ _ st h=>by obtain⟨⟨old,he⟩,_⟩:=st;exact Lj he h
def yt(K:DJ)(t:TA):TI:=fun σ H R=>t σ H fun vs H1=>∃a xs,vs=[.ref a]/\SqL K H1 a xs/\R (CJ K a) H1
theorem wK{X:Cx}{K:DJ}(hK:X.K=K){b:Expr}{ta:TA}{p pos tp:Pos}{elts:List Expr}{kk:Nat}(hg:Gl X "enumerate")(hm:X.mg "enumerate"=none)(ha:PA X [b] ta)(hs:starEach [b] X.env=[(false,eval b X.env)]:=by rfl):
  PI X (.Tuple elts kk tp) (.Call (.Name "enumerate" p) [b] [] pos) (yt K ta):=by
 subst hK;intro pins s σ H R I h;refine Nc<|fw I hg hm boot_enumerate<|F6 (bG (ha pos pins s σ H _ I h) fun us s1⟨vs,H1,I1,r1,q1⟩=>?_) hs rfl;obtain⟨a,xs,e,h1,q⟩:=q1;subst e;obtain⟨v1,rfl,ra⟩:=fh r1;cases ra;obtain⟨its,rv,pl,hz⟩:=I1.list h1;refine call_enumerate_list pl.isList fun h' he hi hsz kp=>?_;refine Lj he ?_;refine⟨s1.heap.objs.size+1,[s1.heap.objs.size+1,s1.heap.objs.size],_,_,H1,rfl,I1.kept (t':=s1.toks) kp,rn a _ _ (iY s1.heap.objs.size 1 0 (by decide)),⟨⟨_,he⟩,hi⟩,fun b hb=>?_,q⟩;have hb':s1.heap.objs.size<=b:=by
  simp only[E1,EA,or_false]at hb;rcases hb with z|z<;>rw[z]
  ·exact Fe _ 1
  ·exact DQ _
 exact I1.fpOk hb'<|I1.hok.fresh hb'
end L2
open L2.Src renaming at_keep->IH,at_obj->Jg,draws->JS,iter->Nl,inj->NL
namespace Wb
open PySem L2
abbrev Rp(α:Type):=Hp->α->V->Prop
class Mono{α:Type}(R:Rp α):Prop where
 mono:∀{H H':Hp}{m:α}{v:V},Same H H'->R H m v->R H' m v
def LR{α:Type}(R:Rp α)(H:Hp)(ms:List α)(vs:List V):Prop:=vs.length=ms.length/\∀(i:Nat)(v:V)(m:α),vs[i]? =some v->ms[i]? =some m->R H m v
theorem LR.nil{α:Type}{R:Rp α}{H:Hp}:LR R H [] []:=⟨rfl,fun i v m e=>by simp at e⟩
theorem LR.same{α:Type}{R:Rp α}[Mono R]{H H':Hp}{ms:List α}{vs:List V}(h:LR R H ms vs)(e:Same H H'):LR R H' ms vs:=⟨h.1,fun i v m a b=>Mono.mono e<|h.2 i v m a b⟩
theorem LR.snoc{α:Type}{R:Rp α}{H:Hp}{ms:List α}{vs:List V}{m:α}{v:V}(h:LR R H ms vs)(r:R H m v):LR R H (ms++[m]) (vs++[v]):=by
 refine⟨by simp[h.1],fun i v' m' a b=>?_⟩;by_cases hi:i<vs.length
 ·rw[Ef hi]at a;rw[Ef (by rw[<-h.1];exact hi)]at b;exact h.2 i v' m' a b
 ·rw[Ea (by omega)]at a;rw[Ea (by rw[<-h.1];omega)]at b;rw[<-h.1]at b;cases e:i-vs.length with
  |zero=>rw[e]at a b;simp at a b;subst a b;exact r
  |succ n=>rw[e]at a;simp at a
theorem LR.get{α:Type}{R:Rp α}{H:Hp}{ms:List α}{vs:List V}{i:Nat}{m:α}(h:LR R H ms vs)(e:ms[i]? =some m):∃v,vs[i]? =some v/\R H m v:=by
 have hi:i<vs.length:=by rw[h.1];exact(DR.mp e).1
 exact⟨vs[i],by simp[hi],h.2 i _ m (by simp[hi]) e⟩
def isL{α:Type}(R:Rp α):Rp (List α):=fun H ms v=>∃p vs,v=.ref p/\H p=some (.lst vs)/\LR R H ms vs
instance zkeep1{α:Type}{R:Rp α}[Mono R]:Mono (isL R):=⟨fun e⟨p,vs,h1,h2,h3⟩=>⟨p,vs,h1,e _ _ h2,h3.same e⟩⟩
def isS:Rp (List Nat):=fun _ l v=>v=.str (sOf l)
instance zkeep2:Mono isS:=⟨fun _ h=>h⟩
def isI:Rp Int:=fun _ l v=>v=.int l
instance zkeep4:Mono isI:=⟨fun _ h=>h⟩
theorem LR.str{H:Hp}{ms:List (List Nat)}{vs:List V}(h:LR isS H ms vs):vs=ms.map fun l=>JR (sOf l):=by
 refine FJ fun i=>?_;rw[DU];cases e:ms[i]? with
 |none=>rw[Fn]at e;rw[Fn.mpr (by rw[h.1];exact e)];rfl
 |some m=>obtain⟨v,a,b⟩:=h.get e;rw[a];cases b;rfl
end Wb
open Wb.Mono renaming mono->DD
namespace L2
open PySem PySem.Spec PyProof.Rows
section
variable{X:Cx}{K:DJ}{w:E8}
theorem fb(h:X.K=K):dE X (.type "list") (fun xs H Q=>∃p ys,xs=[.ref p]/\(SqL K H p ys\/SqT K H p ys)/\∀l,H l=none->Q (.ref l) (cn H l<|.lst ys)):=h▸lK
end
end L2
namespace Wb
open PySem L2
theorem LR.take{α:Type}{R:Rp α}{H:Hp}{ms:List α}{vs:List V}(h:LR R H ms vs)(k:Nat):LR R H (ms.take k) (vs.take k):=by
 refine⟨by simp[h.1],fun i v m a b=>?_⟩;rw[List.getElem?_take]at a b;split at a;·rw[if_pos (by assumption)]at b;exact h.2 i v m a b
 ·cases a
theorem LR.drop{α:Type}{R:Rp α}{H:Hp}{ms:List α}{vs:List V}(h:LR R H ms vs)(k:Nat):LR R H (ms.drop k) (vs.drop k):=by
 refine⟨by simp[h.1],fun i v m a b=>?_⟩;rw[EZ]at a b;exact h.2 _ v m a b
theorem aR{H H':Hp}{p:Addr}(e:Same H H')(h:H' p=none):H p=none:=by
 cases z:H p with
 |none=>rfl
 |some x=>have:=e _ _ z;rw[h]at this;cases this
theorem rp{H H3:Hp}{p:Addr}{o:HO}(e:Same H H3)(h:H p=none):Same H (cn H3 p o):=fun a u z=>by
 rw[aD<|bX z h];exact e _ _ z
end Wb
namespace L2
open PySem PySem.Spec PyProof.Rows
section
variable{X:Cx}{K:DJ}{w:E8}
theorem rq(hc:X.calm=true)(h:X.K=K):dE X (.builtin "sum") (fun xs H Q=>∃(p:Addr)(ns:List Int),xs=[.ref p]/\SqL K H p (ns.map Hr)/\Q (.int ns.sum) H):=by
 subst h;intro pins s σ H xs us Q I r h;obtain⟨p,ns,rfl,hq,q⟩:=h;obtain⟨u,rfl,rx⟩:=fh r;cases rx;obtain⟨its,r',pl,hz⟩:=I.list hq;have hi:=jy r';obtain⟨xs,hx⟩:=hi.allInts.items;have hl':s.heap.IsList p (intItems xs):=hx▸pl.isList;refine sum_intListG (I.ok.hd hc) hl' fun h' tk t' hk=>?_;have e1:ns=xs.toList.map (·.1):=by
  rw[<-nums_intItems,<-hx];exact(show numsOf its.toArray.toList=ns from hi.numsOf).symm
 have e2:preSum (numAt xs) xs.size=ns.sum:=by
  rw[preSum_eq,He (by simp),e1]
 rw[e2];exact⟨.int ns.sum,H,I.kept hk,⟨_,rfl⟩,q⟩
end
theorem n6:∀(xs:List V)(us:List DM),us.length=xs.length->(∀(j:Nat)(x:V)(u:DM),xs[j]? =some x->us[j]? =some u->RelV x u)->Vals xs us
 | [],[],_,_=>.nil
 |x::xs,u::us,hl,h=>.cons (h 0 x u rfl rfl) (n6 xs us (by simpa using hl) fun j x u a b=>h (j+1) x u (by simpa using a) (by simpa using b))
 | [],_::_,hl,_=>by simp at hl
 |_::_,[],hl,_=>by simp at hl
theorem iM{α β:Type}{F:α->β->Prop}:∀{l₁:List α}{l₂:List β},Paired F l₁ l₂->∀{j:Nat}{b:β},l₂[j]? =some b->∃a,l₁[j]? =some a/\F a b
 |_,_,.nil,j,b,h=>by simp at h
 |_,_,.cons r rs,0,b,h=>by simp at h;subst h;exact⟨_,rfl,r⟩
 |_,_,.cons r rs,j+1,b,h=>by simp at h;obtain⟨a,h1,h2⟩:=iM rs h;exact⟨a,by simpa using h1,h2⟩
section
variable{X:Cx}{K:DJ}{w:E8}
theorem lP(h:X.K=K):dE X (.builtin "sorted") (fun xs H Q=>∃(p:Addr)(ns:List Int),xs=[.ref p]/\SqL K H p (ns.map Hr)/\ns.length<64/\∀(q:Addr)(ns':List Int),H q=none->ns'.Perm ns->ns'.Pairwise (· <= ·)->Q (.ref q) (cn H q<|.lst<|ns'.map Hr)):=by
 subst h;intro pins s σ H xs us Q I r h;obtain⟨p,ns,rfl,hq,h64,q⟩:=h;obtain⟨u,rfl,rx⟩:=fh r;cases rx;obtain⟨its,r',pl,hz⟩:=I.list hq;have hi:=jy r';have hlen:=IntsAre.length hi;refine sorted_ints pl.isList hi (by omega) fun out ns' a1 a2 a3=>?_;obtain⟨e,he⟩:=sortedAll_at s.heap its out;have hl':=a2.length_eq;refine⟨.ref<|s.heap.objs.size+1,_,I.laid (t':=s.toks) (fun _ _=>sortedAll_old) (Jr _) (show ObjOk X.prog X.w _ _ _ (.lst<|ns'.map Hr)from⟨by rw[El,F3];omega,out.toList,e,iK a1,by rw[Array.toArray_toList];exact he⟩),rfl,q _ ns' (I.hok.fresh<|Jr _) a2 a3⟩
theorem gH(h:X.K=K):gX X (compareOp .NotIn) (Cq K true):=h▸lJ
end
end L2
namespace L2
theorem dC{k:Nat}{A:EB}(r:Room k A):A.units+1<PySem.cLine:=by have:=r.un;omega
end L2
namespace L2
open PySem PySem.Spec PyProof.Rows
def tY(K:DJ)(te:TE)(tk:TO):TE:=fun σ H Q=>te σ H fun x H1=>tk σ H1 fun k H2=>∃a xs,x=.ref a/\k=some (-1)/\SqL K H2 a xs/\∀p,H2 p=none->Q (.ref p) (cn H2 p<|.lst xs.reverse)
theorem tZ{xs:List V}{us:List DM}(r:Vals xs us):Vals xs.reverse us.reverse:=by
 induction r with
 |nil=>exact .nil
 |cons h t ih=>rw[Lk,Lk];exact Paired.snoc ih h
theorem n9{X:Cx}{K:DJ}(hK:X.K=K){e st:Expr}{te:TE}{tk:TO}{pos p2:Pos}(ops:Addr->Addr->List DM)(hs:∀a b:Addr,subscripted (.Slice none none (some st) p2) false (.ref a) (.ref b)=operate (ops a b) (getItem (.ref a)<|.ref b))(he:PE X e te)(hk:PO X (some st) tk):PE X (.Subscript e (.Slice none none (some st) p2) pos) (tY K te tk):=by
 subst hK;intro pins s σ H Q I h;refine KY<|bG (he pins s σ H _ I h) fun v s1 zz=>?_;obtain⟨x,H1,I1,r1,q1⟩:=zz;refine wpAny_Slice ?_;rw[KI];refine DL ?_;refine DL ?_;refine bG (hk pins s1 σ H1 _ I1 q1) fun vk s3 zz=>?_;obtain⟨k,H3,I3,pk,q3⟩:=zz;obtain⟨a,xs,rfl,rfl,hx,q⟩:=q3;cases r1;have I4:Inv X pins σ H3 {s3 with heap:=s3.heap.push {cls:=.type "slice",data:=.fields #[.none,.none,vk]}}:=I3.kept (t':=s3.toks) fun b ob q=>DH _ q;obtain⟨its,r,ht,hz⟩:=I4.list hx;have hlen:=r.length;show wpAny (model X.prog X.w) X.A (subscriptTail e (.Slice none none (some st) p2) (.ref a)<|.ref s3.heap.objs.size) (EP X pins σ Q) X.xe {s3 with heap:=s3.heap.push {cls:=.type "slice",data:=.fields #[.none,.none,vk]}};refine Nd (ops:=ops a s3.heap.objs.size) ht.isList.typeIs Jp.lookup ?_<|hs _ _;refine Jz ht.isList (KZ ..) .none .none pk (by decide) ?_ (by rw[DY];omega);rw[PySem.W.krv_pick];refine⟨.ref _,_,I4.laid (t':=s3.toks) (o:=.lst xs.reverse) (fun b ob q=>DH _ q) (DQ _) ?_,rfl,q _<|I4.hok.fresh<|DQ _⟩;exact⟨by rw[IT];exact hz,_,0,tZ r,DS _ rfl⟩
end L2
namespace Wb
open PySem L2
end Wb
namespace L2
open PySem PySem.Spec PyProof.Rows Wb
end L2
namespace L2
open PySem PySem.Spec PyProof.Rows
abbrev bP(h:Heap)(T:Addr)(a b c:DM):Prop:=h.get? T=some {cls:=.type "tuple",data:=.seq #[a,b,c]}
def AG(h:Heap)(o1 o2 o3:Obj):Heap:=(((h.push o1).push o2).push o3).push {cls:=.type "tuple",data:=.seq #[.ref h.objs.size,.ref (h.push o1).objs.size,.ref ((h.push o1).push o2).objs.size]}
def AH(h:Heap)(o1 o2 o3:Obj):Heap:=(AG h o1 o2 o3).push {cls:=.type "tuple",data:=.seq #[.none,.none,.none]}
def zo(h:Heap)(o1 o2 o3:Obj):Heap:=(AH h o1 o2 o3).push {cls:=.type "zip",data:=.fields #[.none,.bool false,.bool false,.ref (((h.push o1).push o2).push o3).objs.size,.ref (AG h o1 o2 o3).objs.size]}
theorem kN(v1 v2 v3:DM)(o1 o2 o3:Obj):Meets (Fw.«zip.__new__» ⟨[.type "zip",v1,v2,v3],[]⟩) (fun _ R s=>eA v1 s.heap o1/\eA v2 (s.heap.push o1) o2/\eA v3 ((s.heap.push o1).push o2) o3/\R (.ok<|.ret<|.ref (AH s.heap o1 o2 o3).objs.size) {s with heap:=zo s.heap o1 o2 o3}):=
 .of_wp fun prog w A R s h=>by
  obtain⟨hp,g,d,tk,os⟩:=s;obtain⟨i1,i2,i3,h⟩:=h;have hsub:=sub_zip;have j1:=fun(A:EB)(E:DM->DN->Prop)(Q:DM->DN->Prop)(q:Q _ _)=>i1 prog w A E Q ⟨hp,g,d,tk,os⟩ rfl q;have j2:=fun(A:EB)(E:DM->DN->Prop)(Q:DM->DN->Prop)(q:Q _ _)=>i2 prog w A E Q ⟨hp.push o1,g,d,tk,os⟩ rfl q;have j3:=fun(A:EB)(E:DM->DN->Prop)(Q:DM->DN->Prop)(q:Q _ _)=>i3 prog w A E Q ⟨(hp.push o1).push o2,g,d,tk,os⟩ rfl q
  wp_walk using j1 _ _ _,j2 _ _ _,j3 _ _ _
  exact⟨_,rfl,h⟩
theorem jF(a b c:DM):checkTypeCall "zip" ⟨[a,b,c],[]⟩=pure ():=by kernel_rfl
theorem kO(a b c:DM):checkBuiltinCall "zip.__new__" ⟨[.type "zip",a,b,c],[]⟩=pure ():=by kernel_rfl
theorem gN(a b c d:DM):argsOk "object.__init__" ⟨[a,b,c,d],[]⟩:=by
 unfold argsOk;rw[K7 (id:="object.__init__") (n:=['_','_','t','i','n','i','_','_']) (o:=['t','c','e','j','b','o']) (by kernel_rfl) PySem.F.owner_object];kernel_rfl
theorem rA{P:E4}{w:E8}{A:EB}{E:DM->DN->Prop}{s:DN}{v1 v2 v3:DM}{o1 o2 o3:Obj}{Q:DM->DN->Prop}(i1:eA v1 s.heap o1)(i2:eA v2 (s.heap.push o1) o2)(i3:eA v3 ((s.heap.push o1).push o2) o3)
  (f1:o1.isFreed=false) (f2:o2.isFreed=false) (f3:o3.isFreed=false)
  (q:∀h',H9 h' (s.heap.objs.size+5) (s.heap.objs.size+3) (s.heap.objs.size+4) .none->bP h' (s.heap.objs.size+3) (.ref s.heap.objs.size) (.ref<|s.heap.objs.size+1) (.ref<|s.heap.objs.size+2)->bP h' (s.heap.objs.size+4) .none .none .none->
   h'.get? s.heap.objs.size=some o1->h'.get? (s.heap.objs.size+1)=some o2->h'.get? (s.heap.objs.size+2)=some o3->(∀c o,s.heap.get? c=some o->h'.get? c=some o)->Q (.ref (s.heap.objs.size+5)) {s with heap:=h'}):
  wpAny (model P w) A (call (.type "zip") [v1,v2,v3]) Q E s:=by
 refine callType_new L7 (by decide) (jF _ _ _) (kO _ _ _) (fun obj=>gN obj _ _ _) Kc (kN v1 v2 v3 o1 o2 o3) ⟨i1,i2,i3,?_⟩;have z1:(s.heap.push o1).objs.size=s.heap.objs.size+1:=EX ..;have z2:((s.heap.push o1).push o2).objs.size=s.heap.objs.size+2:=by rw[EX,z1]
 have z3:(((s.heap.push o1).push o2).push o3).objs.size=s.heap.objs.size+3:=by rw[EX,z2]
 have z4:(AG s.heap o1 o2 o3).objs.size=s.heap.objs.size+4:=by unfold AG;rw[EX,z3]
 have z5:(AH s.heap o1 o2 o3).objs.size=s.heap.objs.size+5:=by unfold AH;rw[EX,z4]
 have g6:(zo s.heap o1 o2 o3).get? (AH s.heap o1 o2 o3).objs.size=some _:=DS _ rfl;have g5:(zo s.heap o1 o2 o3).get? (AG s.heap o1 o2 o3).objs.size=some _:=DH _<|DS _ rfl;have g4:(zo s.heap o1 o2 o3).get? (((s.heap.push o1).push o2).push o3).objs.size=some _:=DH _<|DH _<|DS _ rfl;have g3:(zo s.heap o1 o2 o3).get? ((s.heap.push o1).push o2).objs.size=some o3:=DH _<|DH _<|DH _<|DS _ f3;have g2:(zo s.heap o1 o2 o3).get? (s.heap.push o1).objs.size=some o2:=DH _<|DH _<|DH _<|DH _<|DS _ f2;have g1:(zo s.heap o1 o2 o3).get? s.heap.objs.size=some o1:=DH _<|DH _<|DH _<|DH _<|DH _<|DS _ f1;show _/\_;rw[z3,z4,z5]at g6;rw[z1,z2,z3]at g4;rw[z4]at g5;rw[z2]at g3;rw[z1]at g2;rw[z5];exact⟨⟨_,g6,rfl⟩,q _ g6 g4 g5 g1 g2 g3 fun c o x=>DH _<|DH _<|DH _<|DH _<|DH _<|DH _ x⟩
section
variable{P:E4}{w:E8}{A:EB}{E:DM->DN->Prop}{s:DN}{z TI TO i1 i2 i3:Addr}{fp1 fp2 fp3:List Addr}{n1 n2 n3 k:Nat}{P1 P2 P3:Nat->DM->Prop}{S1 S2 S3:Nat->Heap->Prop}{a b c:DM}
theorem bw{T:Addr}{a b c x:DM}{k:Nat}{Q:Unit->DN->Prop}(hT:bP s.heap T a b c)
  (h:∀h',h'.get? T=some {cls:=.type "tuple",data:=.seq ((#[a,b,c]:Array DM).setIfInBounds k x)}->E6 T s.heap h'->Q () {s with heap:=h'}):
  wpAny (model P w) A (updateSeq T (·.setIfInBounds k x)) Q E s:=by
 refine wpAny_updateSeq hT rfl<|h _ ?_<|F8 ..;rw[FN _ hT rfl];simp[Gu]
structure ZApart3(z TI TO i1 i2 i3:Addr)(fp1 fp2 fp3:List Addr):Prop where
 c1:TI≠z
 c2:TO≠z
 c3:i1≠z
 c4:i2≠z
 c4':i3≠z
 c5:TI≠TO
 c6:TI≠i1
 c7:TI≠i2
 c7':TI≠i3
 c8:TO≠i1
 c9:TO≠i2
 c9':TO≠i3
 d1:z∉fp1/\TO∉fp1/\i2∉fp1/\i3∉fp1
 d2:z∉fp2/\TO∉fp2/\i1∉fp2/\i3∉fp2
 d3:z∉fp3/\TO∉fp3/\i1∉fp3/\i2∉fp3
theorem rB{Q:Option DM->DN->Prop}(D1:K6 P w A.in1 i1 fp1 n1 P1 S1)(D2:K6 P w A.in1 i2 fp2 n2 P2 S2)(D3:K6 P w A.in1 i3 fp3 n3 P3 S3)(Z:ZApart3 z TI TO i1 i2 i3 fp1 fp2 fp3)(h1:k<n1)(h2:k<n2)(h3:k<n3)(hz:H9 s.heap z TI TO .none)
  (hI:bP s.heap TI (.ref i1) (.ref i2) (.ref i3)) (hO:bP s.heap TO a b c) (t1:S1 k s.heap) (t2:S2 k s.heap) (t3:S3 k s.heap)
  (q:∀x y u h' tk T,P1 k x->P2 k y->P3 k u->T=s.heap.objs.size->H9 h' z TI TO (rawInt T)->bP h' TO x y u->S1 (k+1) h'->S2 (k+1) h'->S3 (k+1) h'->bP h' T x y u->
   (∀c o,c≠z->c≠TO->c≠i1->c≠i2->c≠i3->s.heap.get? c=some o->h'.get? c=some o)->Q (some (.ref T)) {s with heap:=h',toks:=tk}):
  wpAny (model P w) A (pyNext<|.ref z) Q E s:=by
 have hT:s.TypeIs (.ref z) "zip":=⟨_,hz,rfl⟩
 unfold pyNext;refine DF<|Gr<|ET (name:=DP "__next__") hT Ft<|EH Ft hT Hf ?_<|GQ _;obtain⟨hp,gg,dd,tk0,os⟩:=s;show wpAny (model P w) _ (field (.ref z) 2>>=_) _ _ _;refine DF<|EW hz rfl (x:=.bool false) rfl ?_;show wpAny (model P w) _ (field (.ref z) 3>>=_) _ _ _;refine DF<|EW hz rfl (x:=.ref TI) rfl<|DF<|ER hI rfl ?_;show wpAny (model P w) _ (Ey (.ref z)>>=_) _ _ _;refine DF ?_;unfold Ey;refine DF<|EW hz rfl (x:=.none) rfl<|DL ?_;simp only[if_true];refine DF (G6 (DF (EW hz rfl (x:=.ref TO) rfl (DF (EU hz (by simp) fun g1 y1 b1=>?_)))));replace y1:H9 g1 z TI TO .ellipsis:=y1;replace b1:E6 z hp g1:=b1;refine DF ?_;simp only[HG,IM,HP,Ia];refine DF<|DF<|Gb ?_;show wpAny (model P w) _ (Eg (.ref i1)>>=_) _ _ _;refine DF<|D1.item k _ _ _ h1 (az D1 t1 b1 Z.d1.1) fun x g2 tk2 px u1 b2=>DL ?_;replace b2:E6 i1 g1 g2:=b2;have O2:bP g2 TO a b c:=b2.extBut _ _ Z.c8<|b1.extBut _ _ Z.c2 hO;refine DF<|ER O2 rfl<|DF<|bw O2 fun g3 O3 b3=>?_;replace O3:bP g3 TO x b c:=O3;replace b3:E6 TO g2 g3:=b3;refine DF<|Hy<|DL<|DF<|DF<|Gb ?_;show wpAny (model P w) _ (Eg (.ref i2)>>=_) _ _ _;refine DF<|D2.item k _ _ _ h2 (az D2 (az D2 (az D2 t2 b1 Z.d2.1) b2 Z.d2.2.2.1) b3 Z.d2.2.1) fun y g4 tk4 py u2 b4=>DL ?_;replace b4:E6 i2 g3 g4:=b4;have O4:bP g4 TO x b c:=b4.extBut _ _ Z.c9 O3;refine DF<|ER O4 rfl<|DF<|bw O4 fun g5 O5 b5=>?_;replace O5:bP g5 TO x y c:=O5;replace b5:E6 TO g4 g5:=b5;refine DF<|Hy<|DL<|DF<|DF<|Gb ?_;show wpAny (model P w) _ (Eg (.ref i3)>>=_) _ _ _;refine DF<|D3.item k _ _ _ h3 (az D3 (az D3 (az D3 (az D3 (az D3 t3 b1 Z.d3.1) b2 Z.d3.2.2.1) b3 Z.d3.2.1) b4 Z.d3.2.2.2) b5 Z.d3.2.1) fun u g6 tk6 pu u3 b6=>DL ?_;replace b6:E6 i3 g5 g6:=b6;have O6:bP g6 TO x y c:=b6.extBut _ _ Z.c9' O5;refine DF<|ER O6 rfl<|DF<|bw O6 fun g7 O7 b7=>?_;replace O7:bP g7 TO x y u:=O7;replace b7:E6 TO g6 g7:=b7;refine DF<|Hy<|DL<|DL<|DF<|ER O7 rfl<|DF<|Kw ?_;have sz:g7.objs.size=hp.objs.size:=by rw[b7.1,b6.1,b5.1,b4.1,b3.1,b2.1,b1.1]
 have y7:H9 g7 z TI TO .ellipsis:=b7.extBut _ _ Z.c2.symm<|b6.extBut _ _ Z.c4'.symm<|b5.extBut _ _ Z.c2.symm<|b4.extBut _ _ Z.c4.symm<|b3.extBut _ _ Z.c2.symm<|b2.extBut _ _ Z.c3.symm y1;have k7:∀c o,c≠z->c≠TO->c≠i1->c≠i2->c≠i3->hp.get? c=some o->g7.get? c=some o:=fun c o e1 e2 e3 e4 e5 e=>b7.extBut _ _ e2<|b6.extBut _ _ e5<|b5.extBut _ _ e2<|b4.extBut _ _ e4<|b3.extBut _ _ e2<|b2.extBut _ _ e3<|b1.extBut _ _ e1 e;have v1:S1 (k+1) g7:=az D1 (az D1 (az D1 (az D1 (az D1 u1 b3 Z.d1.2.1) b4 Z.d1.2.2.1) b5 Z.d1.2.1) b6 Z.d1.2.2.2) b7 Z.d1.2.1;have v2:S2 (k+1) g7:=az D2 (az D2 (az D2 u2 b5 Z.d2.2.1) b6 Z.d2.2.2.2) b7 Z.d2.2.1;have v3:S3 (k+1) g7:=az D3 u3 b7 Z.d3.2.1;have lz:z<g7.objs.size:=DW y7;show wpAny (model P w) _ (FH (.ref z) (.ref g7.objs.size)>>=_) _ _ _;refine DF ?_;unfold FH;have y8:H9 (g7.push {cls:=.type "tuple",data:=.seq #[x,y,u]}) z TI TO .ellipsis:=DH _ y7;refine DF (EU y8 (by simp) fun g9 y9 b9=>?_);replace y9:H9 g9 z TI TO (rawInt g7.objs.size):=y9;replace b9:E6 z (g7.push {cls:=.type "tuple",data:=.seq #[x,y,u]}) g9:=b9;refine EU y9 (by simp) fun g10 y10 b10=>?_;replace y10:H9 g10 z TI TO (rawInt g7.objs.size):=y10;replace b10:E6 z g9 g10:=b10;have up:∀c o,c≠z->g7.get? c=some o->g10.get? c=some o:=fun c o e1 e=>b10.extBut _ _ e1<|b9.extBut _ _ e1<|DH _ e;have T8:bP g10 g7.objs.size x y u:=b10.extBut _ _ (Hc lz)<|b9.extBut _ _ (Hc lz)<|DS _ rfl;refine DL ⟨_,rfl,DL<|q x y u g10 _ g7.objs.size px py pu sz y10 (up _ _ Z.c2 O7) (D1.frame _ _ _ v1 fun b hb o e=>up b o (fun q=>Z.d1.1<|q▸hb) e) (D2.frame _ _ _ v2 fun b hb o e=>up b o (fun q=>Z.d2.1<|q▸hb) e) (D3.frame _ _ _ v3 fun b hb o e=>up b o (fun q=>Z.d3.1<|q▸hb) e) T8 fun c o e1 e2 e3 e4 e5 e=>up c o e1<|k7 c o e1 e2 e3 e4 e5 e⟩
theorem u0{Q:Option DM->DN->Prop}(hh:A.handled=none)(D1:K6 P w A.in1 i1 fp1 n1 P1 S1)(D2:K6 P w A.in1 i2 fp2 n2 P2 S2)(D3:K6 P w A.in1 i3 fp3 n3 P3 S3)(Z:ZApart3 z TI TO i1 i2 i3 fp1 fp2 fp3)(hk:k=n1\/(k<n1/\k=n2)\/(k<n1/\k<n2/\k=n3))(hz:H9 s.heap z TI TO .none)
  (hI:bP s.heap TI (.ref i1) (.ref i2) (.ref i3)) (hO:bP s.heap TO a b c) (t1:S1 k s.heap) (t2:S2 k s.heap) (t3:S3 k s.heap)
  (q:∀h' tk,(∀c o,c≠z->c≠TO->c≠i1->c≠i2->c≠i3->s.heap.get? c=some o->h'.get? c=some o)->Q none {s with heap:=h',toks:=tk}):
  wpAny (model P w) A (pyNext<|.ref z) Q E s:=by
 have hT:s.TypeIs (.ref z) "zip":=⟨_,hz,rfl⟩
 unfold pyNext;refine DF<|Gr<|ET (name:=DP "__next__") hT Ft<|EH Ft hT Hf ?_<|GQ _;obtain⟨hp,gg,dd,tk0,os⟩:=s;show wpAny (model P w) _ (field (.ref z) 2>>=_) _ _ _;refine DF<|EW hz rfl (x:=.bool false) rfl ?_;show wpAny (model P w) _ (field (.ref z) 3>>=_) _ _ _;refine DF<|EW hz rfl (x:=.ref TI) rfl<|DF<|ER hI rfl ?_;show wpAny (model P w) _ (Ey (.ref z)>>=_) _ _ _;refine DF ?_;unfold Ey;refine DF<|EW hz rfl (x:=.none) rfl<|DL ?_;simp only[if_true];refine DF (G6 (DF (EW hz rfl (x:=.ref TO) rfl (DF (EU hz (by simp) fun g1 y1 b1=>?_)))));replace y1:H9 g1 z TI TO .ellipsis:=y1;replace b1:E6 z hp g1:=b1;refine DF ?_;simp only[HG,IM,HP,Ia];refine DF<|DF<|Gb ?_;show wpAny (model P w) _ (Eg (.ref i1)>>=_) _ _ _;rcases hk with hk|hk
 ·subst hk;refine DF<|D1.done _ _ _ (az D1 t1 b1 Z.d1.1) fun g2 e b2 he=>?_;obtain⟨oe,hoe,hce⟩:=he;replace b2:Hx i1 g1 g2:=b2;have y2:H9 g2 z TI TO .ellipsis:=b2 _ _ Z.c3.symm y1;have ez:e≠z:=fun x=>by subst x;rw[y2]at hoe;cases hoe;simp at hce
  refine EU y2 (by simp) fun g3 _ b3=>?_;exact DF<|G7 (T:="StopIteration") (b:=true) ⟨oe,b3.extBut _ _ ez hoe,hce⟩ GR<|DL<|q g3 _ fun c o e1 _ e3 _ _ x=>b3.extBut _ _ e1<|b2 _ _ e3<|b1.extBut _ _ e1 x
 ·have hk1:k< n1:=by rcases hk with z | z <;> exact z.1
  refine DF<|D1.item k _ _ _ hk1 (az D1 t1 b1 Z.d1.1) fun x g2 tk2 px u1 b2=>DL ?_;replace b2:E6 i1 g1 g2:=b2;have O2:bP g2 TO a b c:=b2.extBut _ _ Z.c8<|b1.extBut _ _ Z.c2 hO;refine DF<|ER O2 rfl<|DF<|bw O2 fun g3 O3 b3=>?_;replace b3:E6 TO g2 g3:=b3;replace O3:bP g3 TO x b c:=O3;refine DF<|Hy<|DL<|DF<|DF<|Gb ?_;show wpAny (model P w) _ (Eg (.ref i2)>>=_) _ _ _;rcases hk with⟨_,hk2⟩|⟨_,hk2,hk3⟩
  ·subst hk2;refine DF<|D2.done _ _ _ (az D2 (az D2 (az D2 t2 b1 Z.d2.1) b2 Z.d2.2.2.1) b3 Z.d2.2.1) fun g4 e b4 he=>?_;obtain⟨oe,hoe,hce⟩:=he;replace b4:Hx i2 g3 g4:=b4;have y4:H9 g4 z TI TO .ellipsis:=b4 _ _ Z.c4.symm<|b3.extBut _ _ Z.c2.symm<|b2.extBut _ _ Z.c3.symm y1;have ez:e≠z:=fun x=>by subst x;rw[y4]at hoe;cases hoe;simp at hce
   refine EU y4 (by simp) fun g5 _ b5=>?_;exact DF<|G7 (T:="StopIteration") (b:=true) ⟨oe,b5.extBut _ _ ez hoe,hce⟩ GR<|DL<|q g5 _ fun c o e1 e2 e3 e4 _ x=>b5.extBut _ _ e1<|b4 _ _ e4<|b3.extBut _ _ e2<|b2.extBut _ _ e3<|b1.extBut _ _ e1 x
  ·subst hk3;refine DF<|D2.item k _ _ _ hk2 (az D2 (az D2 (az D2 t2 b1 Z.d2.1) b2 Z.d2.2.2.1) b3 Z.d2.2.1) fun y g4 tk4 py u2 b4=>DL ?_;replace b4:E6 i2 g3 g4:=b4;have O4:bP g4 TO x b c:=b4.extBut _ _ Z.c9 O3;refine DF<|ER O4 rfl<|DF<|bw O4 fun g5 O5 b5=>?_;replace b5:E6 TO g4 g5:=b5;refine DF<|Hy<|DL<|DF<|DF<|Gb ?_;show wpAny (model P w) _ (Eg (.ref i3)>>=_) _ _ _;refine DF<|D3.done _ _ _ (az D3 (az D3 (az D3 (az D3 (az D3 t3 b1 Z.d3.1) b2 Z.d3.2.2.1) b3 Z.d3.2.1) b4 Z.d3.2.2.2) b5 Z.d3.2.1) fun g6 e b6 he=>?_;obtain⟨oe,hoe,hce⟩:=he;replace b6:Hx i3 g5 g6:=b6;have y6:H9 g6 z TI TO .ellipsis:=b6 _ _ Z.c4'.symm<|b5.extBut _ _ Z.c2.symm<|b4.extBut _ _ Z.c4.symm<|b3.extBut _ _ Z.c2.symm<|b2.extBut _ _ Z.c3.symm y1;have ez:e≠z:=fun x=>by subst x;rw[y6]at hoe;cases hoe;simp at hce
   refine EU y6 (by simp) fun g7 _ b7=>?_;exact DF<|G7 (T:="StopIteration") (b:=true) ⟨oe,b7.extBut _ _ ez hoe,hce⟩ GR<|DL<|q g7 _ fun c o e1 e2 e3 e4 e5 x=>b7.extBut _ _ e1<|b6 _ _ e5<|b5.extBut _ _ e2<|b4.extBut _ _ e4<|b3.extBut _ _ e2<|b2.extBut _ _ e3<|b1.extBut _ _ e1 x
end
def AI(K:DJ)(c1 c2 c3:Src):It:=
  ⟨fun i H=>∃xs ys us x y u,c1.has K H xs/\c2.has K H ys/\c3.has K H us/\xs[i]? =some x/\ys[i]? =some y/\us[i]? =some u,
   fun i H v H'=>∃p x y u,H p=none/\v=.ref p/\(∀xs,c1.has K H xs->xs[i]? =some x)/\(∀ys,c2.has K H ys->ys[i]? =some y)/\(∀us,c3.has K H us->us[i]? =some u)/\H'=cn H p (.tup [x,y,u]),
   fun i H=>∃xs ys us,c1.has K H xs/\c2.has K H ys/\c3.has K H us/\(i=xs.length\/(i<xs.length/\i=ys.length)\/(i<xs.length/\i<ys.length/\i=us.length))⟩
def Cs(c1 c2 c3:Src)(z TI TO i1 i2 i3:Addr)(i:Nat)(h:Heap):Prop:=H9 h z TI TO .none/\bP h TI (.ref i1) (.ref i2) (.ref i3)/\(∃a b c,bP h TO a b c)/\c1.at i1 i h/\c2.at i2 i h/\c3.at i3 i h
structure ZIds3(z TI TO i1 i2 i3:Addr):Prop where
 c1:TI≠z
 c2:TO≠z
 c3:i1≠z
 c4:i2≠z
 c4':i3≠z
 c5:TI≠TO
 c6:TI≠i1
 c7:TI≠i2
 c7':TI≠i3
 c8:TO≠i1
 c9:TO≠i2
 c9':TO≠i3
 c10:i1≠i2
 c11:i1≠i3
 c12:i2≠i3
theorem pY{X:Cx}{pins:List (Addr×Obj)}{σ:St}{H:Hp}{s:DN}{z TI TO i1 i2 i3:Addr}{fp1 fp2 fp3:List Addr}(I:Inv X pins σ H s)(Z:ZIds3 z TI TO i1 i2 i3)(hf:∀b∈[z,TI,TO,i1,i2,i3],FpOk X pins H b)
  (g1:∀b∈fp1,b=i1\/H b≠none\/∃o,X.base.get? b=some o) (g2:∀b∈fp2,b=i2\/H b≠none\/∃o,X.base.get? b=some o) (g3:∀b∈fp3,b=i3\/H b≠none\/∃o,X.base.get? b=some o):ZApart3 z TI TO i1 i2 i3 fp1 fp2 fp3:=by
 have no:∀b∈[z,TI,TO,i1,i2,i3],¬(H b≠none\/∃o,X.base.get? b=some o):=fun b hb q=>by
  rcases q with q|⟨o,q⟩
  ·exact q (hf b hb).1
  ·rcases (hf b hb).2.2.2.1 with y | y;·exact I.ok.noex b o q y
   ·exact absurd (DV (DV (DW q) I.ok.bsz) y)<|Fi _
 refine⟨Z.c1,Z.c2,Z.c3,Z.c4,Z.c4',Z.c5,Z.c6,Z.c7,Z.c7',Z.c8,Z.c9,Z.c9',⟨fun m=>?_,fun m=>?_,fun m=>?_,fun m=>?_⟩,⟨fun m=>?_,fun m=>?_,fun m=>?_,fun m=>?_⟩,⟨fun m=>?_,fun m=>?_,fun m=>?_,fun m=>?_⟩⟩;·exact(g1 _ m).elim (fun e=>Z.c3 e.symm) (no z (by simp))
 ·exact(g1 _ m).elim (fun e=>Z.c8 e) (no TO (by simp))
 ·exact(g1 _ m).elim (fun e=>Z.c10 e.symm) (no i2 (by simp))
 ·exact(g1 _ m).elim (fun e=>Z.c11 e.symm) (no i3 (by simp))
 ·exact(g2 _ m).elim (fun e=>Z.c4 e.symm) (no z (by simp))
 ·exact(g2 _ m).elim (fun e=>Z.c9 e) (no TO (by simp))
 ·exact(g2 _ m).elim (fun e=>Z.c10 e) (no i1 (by simp))
 ·exact(g2 _ m).elim (fun e=>Z.c12 e.symm) (no i3 (by simp))
 ·exact(g3 _ m).elim (fun e=>Z.c4' e.symm) (no z (by simp))
 ·exact(g3 _ m).elim (fun e=>Z.c9' e) (no TO (by simp))
 ·exact(g3 _ m).elim (fun e=>Z.c11 e) (no i1 (by simp))
 ·exact(g3 _ m).elim (fun e=>Z.c12 e) (no i2 (by simp))
theorem rC{P:E4}{w:E8}{K:DJ}{elts:List Expr}{kk:Nat}{tp:Pos}(c1 c2 c3:Src)(z TI TO i1 i2 i3:Addr)(Z:ZIds3 z TI TO i1 i2 i3):
  Turn P w K (.Tuple elts kk tp) (AI K c1 c2 c3) [z,TI,TO,i1,i2,i3] z (Cs c1 c2 c3 z TI TO i1 i2 i3) where
 mem:=by simp
 obj:=fun i h st b hb=>by
  obtain⟨hz,hI,⟨a,b',c',hO⟩,t1,t2,t3⟩:=st;obtain⟨o1,e1,v1,d1⟩:=Jg t1;obtain⟨o2,e2,v2,d2⟩:=Jg t2;obtain⟨o3,e3,v3,d3⟩:=Jg t3;simp only[E1,EA,or_false]at hb;rcases hb with rfl|rfl|rfl|rfl|rfl|rfl;·exact⟨_,hz,fun v q=>by cases (show Iw _=Hk v from q)⟩
  ·exact⟨_,hI,fun v q=>by cases (show Ku _ _=Hk v from q)⟩
  ·exact⟨_,hO,fun v q=>by cases (show Ku _ _=Hk v from q)⟩
  ·exact⟨_,e1,fun v q=>by rw[d1]at q;cases q⟩
  ·exact⟨_,e2,fun v q=>by rw[d2]at q;cases q⟩
  ·exact⟨_,e3,fun v q=>by rw[d3]at q;cases q⟩
 keep:=fun i h h' st k=>by
  obtain⟨hz,hI,⟨a,b',c',hO⟩,t1,t2,t3⟩:=st;exact⟨k z (by simp) _ hz,k TI (by simp) _ hI,⟨a,b',c',k TO (by simp) _ hO⟩,IH t1 (k i1 (by simp)),IH t2 (k i2 (by simp)),IH t3 (k i3 (by simp))⟩
 item:=by
  intro X hP hw hK hc i pins s σ H E I hf st hg;subst hP hw hK;obtain⟨xs,ys,us,x,y,u,hx,hy,hu,ex,ey,eu⟩:=hg;obtain⟨hz,hI,⟨a,b',c',hO⟩,t1,t2,t3⟩:=st;have hh:X.A.in1.handled=none:=I.ok.hd hc;obtain⟨fp1,P1,S1,D1,u1,r1,a1,_,g1⟩:=JS (A:=X.A.in1) hh I hx t1 (hf i1 (by simp)).1;obtain⟨fp2,P2,S2,D2,u2,r2,a2,_,g2⟩:=JS (A:=X.A.in1) hh I hy t2 (hf i2 (by simp)).1;obtain⟨fp3,P3,S3,D3,u3,r3,a3,_,g3⟩:=JS (A:=X.A.in1) hh I hu t3 (hf i3 (by simp)).1;have ZA:=pY I Z hf g1 g2 g3;refine rB D1 D2 D3 ZA (DR.mp ex).1 (DR.mp ey).1 (DR.mp eu).1 hz hI hO u1 u2 u3 fun vx vy vu h' tk T px py pu hT hz' hO' w1 w2 w3 hTp kp=>?_;obtain⟨x',ex',rx⟩:=r1 i vx px;obtain⟨y',ey',ry⟩:=r2 i vy py;obtain⟨u',eu',ru⟩:=r3 i vu pu;rw[ex]at ex';cases ex';rw[ey]at ey';cases ey';rw[eu]at eu';cases eu';have nT:H T=none:=by rw[hT];exact I.hok.fresh<|DQ _
  refine⟨_,rfl,Ji hz' fun h2 hz2 sb=>?_⟩;have lt:∀{c o},s.heap.get? c=some o->c≠T:=fun e=>by rw[hT];exact Ed<|DW e
  have up:∀c o,c≠z->h'.get? c=some o->h2.get? c=some o:=fun c o hc e=>(sb.2 c hc).trans e;have kp2:∀b o,b∉[z,TO,i1,i2,i3]->s.heap.get? b=some o->h2.get? b=some o:=fun b o hb e=>by
   simp only[E1,EA,or_false,not_or]at hb;exact up b o hb.1<|kp b o hb.1 hb.2.1 hb.2.2.1 hb.2.2.2.1 hb.2.2.2.2 e
  have ch:∀b∈[z,TO,i1,i2,i3],b∈[z,TI,TO,i1,i2,i3]:=fun b hb=>by
   simp only[E1,EA,or_false]at hb ⊢;rcases hb with h|h|h|h|h<;>simp[h]
  have gp:∀b u,H b=some u->b∉[z,TO,i1,i2,i3]/\b≠T:=fun b u e=>⟨fun hb=>(by rw[(hf b<|ch b hb).1]at e;cases e),fun q=>(by rw[q,nT]at e;cases e)⟩
  have I2:Inv X pins σ (cn H T<|.tup [x,y,u]) {s with heap:=h2,gens:=s.gens,drawn:=s.drawn,toks:=tk}:=by
   refine I.step (g':=s.gens) (d':=s.drawn) (t':=tk) (ch:=[z,TO,i1,i2,i3]) (fun b hb=>⟨(hf b<|ch b hb).2.2.2.1,(hf b<|ch b hb).2.1,(hf b<|ch b hb).2.2.2.2.1,(hf b<|ch b hb).2.2.2.2.2⟩) (fun b o _ _ hb e _=>kp2 b o hb e) (fun b o _ _ hb e _=>⟨o.slots,kp2 b o hb e⟩)
    (fun b o hb e n=>by rw[aD<|lt e];exact n) (fun b o hb e=>⟨o,kp2 b o hb e⟩) (fun b xs e=>by rw[aD (gp b _ e).2];exact e) (fun b o u e=>by rw[aD (gp b _ e).2];exact e) (fun b ps e=>⟨#[],by rw[aD (gp b _ e).2,e];simp⟩) (fun m hm=>?_) (fun b u e=>?_) I.bare
   ·obtain⟨o,es,ep,ho,r⟩:=hm;exact⟨o,es,ep,kp2 _ o (fun hb=>(hf _<|ch _ hb).2.1 rfl) ho,r⟩
   ·by_cases hb:b=T
    ·subst hb;rw[aI]at e;cases e;refine⟨(by show 3<=sizeLine;rw[F3];decide),[vx,vy,vu],.cons rx<|.cons ry<|.cons ru .nil,⟨_,up _ _ ?_ hTp,⟨rfl,rfl⟩,_,rfl⟩⟩;exact fun q=>lt hz q.symm
    ·rw[aD hb]at e;refine(I.hok b u e).stay (fun c v hc q=>kp2 c v ?_ q) (fun c q=>by rw[aD (gp c _ q).2];exact q) fun c xs q=>by rw[aD (gp c _ q).2];exact q
     rcases hc with q|q;·rw[q];exact(gp b u e).1
     ·exact(gp c _ q).1
  refine⟨.ref T,_,I2,rfl,⟨T,x,y,u,nT,rfl,fun xs' h=>by rw[NL I h hx];exact ex,fun ys' h=>by rw[NL I h hy];exact ey,fun us' h=>by rw[NL I h hu];exact eu,rfl⟩,⟨hz2,up _ _ Z.c1<|kp _ _ Z.c1 Z.c5 Z.c6 Z.c7 Z.c7' hI,⟨_,_,_,up _ _ Z.c2 hO'⟩,IH (a1 _ _ w1) fun o e=>up _ o Z.c3 e,IH (a2 _ _ w2) fun o e=>up _ o Z.c4 e,IH (a3 _ _ w3) fun o e=>up _ o Z.c4' e⟩,fun b hb=>?_⟩;have hbT:b≠T:=by
   obtain⟨o,e⟩:∃o,s.heap.get? b=some o:=by
    obtain⟨o1,e1,_⟩:=Jg t1;obtain⟨o2,e2,_⟩:=Jg t2;obtain⟨o3,e3,_⟩:=Jg t3;simp only[E1,EA,or_false]at hb;rcases hb with rfl|rfl|rfl|rfl|rfl|rfl;·exact⟨_,hz⟩
    ·exact⟨_,hI⟩
    ·exact⟨_,hO⟩
    ·exact⟨_,e1⟩
    ·exact⟨_,e2⟩
    ·exact⟨_,e3⟩
   exact lt e
  rw[aD hbT];exact(hf b hb).1
 done:=by
  intro X hP hw hK hc i pins s σ H E I hf st hg;subst hP hw hK;obtain⟨xs,ys,us,hx,hy,hu,hend⟩:=hg;obtain⟨hz,hI,⟨a,b',c',hO⟩,t1,t2,t3⟩:=st;have hh:X.A.in1.handled=none:=I.ok.hd hc;obtain⟨fp1,P1,S1,D1,u1,r1,a1,_,g1⟩:=JS (A:=X.A.in1) hh I hx t1 (hf i1 (by simp)).1;obtain⟨fp2,P2,S2,D2,u2,r2,a2,_,g2⟩:=JS (A:=X.A.in1) hh I hy t2 (hf i2 (by simp)).1;obtain⟨fp3,P3,S3,D3,u3,r3,a3,_,g3⟩:=JS (A:=X.A.in1) hh I hu t3 (hf i3 (by simp)).1;have ZA:=pY I Z hf g1 g2 g3;have ch:∀b∈[z,TO,i1,i2,i3],b∈[z,TI,TO,i1,i2,i3]:=fun b hb=>by
   simp only[E1,EA,or_false]at hb ⊢;rcases hb with h|h|h|h|h<;>simp[h]
  refine u0 hh D1 D2 D3 ZA hend hz hI hO u1 u2 u3 fun h2 tk kp=>⟨rfl,?_⟩
  have kp2:∀b o,b∉[z,TO,i1,i2,i3]->s.heap.get? b=some o->h2.get? b=some o:=fun b o hb e=>by
   simp only[E1,EA,or_false,not_or]at hb;exact kp b o hb.1 hb.2.1 hb.2.2.1 hb.2.2.2.1 hb.2.2.2.2 e
  refine I.step (g':=s.gens) (d':=s.drawn) (t':=tk) (ch:=[z,TO,i1,i2,i3]) (fun b hb=>⟨(hf b<|ch b hb).2.2.2.1,(hf b<|ch b hb).2.1,(hf b<|ch b hb).2.2.2.2.1,(hf b<|ch b hb).2.2.2.2.2⟩) (fun b o _ _ hb e _=>kp2 b o hb e) (fun b o _ _ hb e _=>⟨o.slots,kp2 b o hb e⟩)
   (fun b o hb e n=>n) (fun b o hb e=>⟨o,kp2 b o hb e⟩) (fun b xs e=>e) (fun b o u e=>e) (fun b ps e=>⟨#[],by rw[e];simp⟩) (fun m hm=>?_) (fun b u e=>?_) I.bare
  ·obtain⟨o,es,ep,ho,r⟩:=hm;exact⟨o,es,ep,kp2 _ o (fun hb=>(hf _<|ch _ hb).2.1 rfl) ho,r⟩
  ·have gp:∀b u,H b=some u->b∉[z,TO,i1,i2,i3]:=fun b u e hb=>by rw[(hf b<|ch b hb).1]at e;cases e
   refine(I.hok b u e).stay (fun c v hc q=>kp2 c v ?_ q) (fun c q=>q) fun c xs q=>q;rcases hc with q|q
   ·rw[q];exact gp b u e
   ·exact gp c _ q
 self:=fun _ _ _ _ _ st h=>Io st.1 h
theorem AJ{x y z:V}{us:List DM}(r:Vals [x,y,z] us):∃u v w',us=[u,v,w']/\RelV x u/\RelV y v/\RelV z w':=by
 cases r with
 |cons h1 r=>cases r with
  |cons h2 r=>cases r with
   |cons h3 r=>cases r;exact⟨_,_,_,rfl,h1,h2,h3⟩
def yu(K:DJ)(t:TA):TI:=fun σ H R=>t σ H fun vs H1=>∃c1 c2 c3 xs ys us,vs=[c1.val,c2.val,c3.val]/\c1.has K H1 xs/\c2.has K H1 ys/\c3.has K H1 us/\R (AI K c1 c2 c3) H1
theorem pZ{X:Cx}{K:DJ}(hK:X.K=K){a b c:Expr}{ta:TA}{p pos tp:Pos}{elts:List Expr}{kk:Nat}(hg:Gl X "zip")(hm:X.mg "zip"=none)(ha:PA X [a,b,c] ta)
  (hs:starEach [a,b,c] X.env=[(false,eval a X.env),(false,eval b X.env),(false,eval c X.env)]:=by rfl) (hs2:starEach [b,c] X.env=[(false,eval b X.env),(false,eval c X.env)]:=by rfl):PI X (.Tuple elts kk tp) (.Call (.Name "zip" p) [a,b,c] [] pos) (yu K ta):=by
 subst hK;intro pins s σ H R I h;refine Nc (fw I hg hm boot_zip (F6 (bG (ha pos pins s σ H _ I h) fun us s1⟨vs,H1,I1,r1,q1⟩=>?_) (by rw[hs,hs2]) (by rw[hs2];rfl)));obtain⟨c1,c2,c3,xs,ys,zs,e,h1,h2,h3,q⟩:=q1;subst e;obtain⟨v1,v2,v3,rfl,ra,rb,rc⟩:=AJ r1;obtain⟨o1,i1,f1,n1⟩:=Nl I1 h1 ra fun _ _ e=>e;obtain⟨o2,i2,f2,n2⟩:=Nl (h:=s1.heap.push o1) I1 h2 rb fun _ _ e=>DH _ e;obtain⟨o3,i3,f3,n3⟩:=Nl (h:=(s1.heap.push o1).push o2) I1 h3 rc fun _ _ e=>DH _<|DH _ e;have z1:(s1.heap.push o1).objs.size=s1.heap.objs.size+1:=EX ..;have z2:((s1.heap.push o1).push o2).objs.size=s1.heap.objs.size+2:=by rw[EX,z1]
 rw[z1]at n2;rw[z2]at n3;refine rA i1 i2 i3 f1 f2 f3 fun h' hz hI hO e1 e2 e3 kp=>?_;refine Io hz ?_;have zi:∀n:Nat,ZIds3 (n+5) (n+3) (n+4) n (n+1) (n+2):=fun n=>⟨(iY n 3 5 (by decide)),(iY n 4 5 (by decide)),(iY n 0 5 (by decide)),(iY n 1 5 (by decide)),(iY n 2 5 (by decide)),(iY n 3 4 (by decide)),(iY n 3 0 (by decide)),(iY n 3 1 (by decide)),(iY n 3 2 (by decide)),(iY n 4 0 (by decide)),(iY n 4 1 (by decide)),(iY n 4 2 (by decide)),(iY n 0 1 (by decide)),(iY n 0 2 (by decide)),(iY n 1 2 (by decide))⟩
 refine⟨s1.heap.objs.size+5,[s1.heap.objs.size+5,s1.heap.objs.size+3,s1.heap.objs.size+4,s1.heap.objs.size,s1.heap.objs.size+1,s1.heap.objs.size+2],_,_,H1,rfl,I1.kept (t':=s1.toks) kp,rC c1 c2 c3 _ _ _ _ _ _<|zi s1.heap.objs.size,⟨hz,hI,⟨_,_,_,hO⟩,n1 h' e1,n2 h' e2,n3 h' e3⟩,fun b hb=>?_,q⟩;have hb':s1.heap.objs.size<=b:=by
  simp only[E1,EA,or_false]at hb;rcases hb with z|z|z|z|z|z<;>rw[z]
  ·exact Fe _ 5
  ·exact Fe _ 3
  ·exact Fe _ 4
  ·exact DQ _
  ·exact Fe _ 1
  ·exact Fe _ 2
 exact I1.fpOk hb'<|I1.hok.fresh hb'
end L2
namespace Mi
inductive Res(α:Type) where
 |ok (a:α)|err (j:Nat)|stuck
namespace Res
variable{α β:Type}
def Ok(m:Res α)(P:α->Prop):Prop:=match m with| .ok a=>P a|_=>False
def bind(m:Res α)(f:α->Res β):Res β:=match m with| .ok a=>f a| .err j=>.err j| .stuck=>.stuck
theorem bind_ok{m:Res α}{f:α->Res β}{P:β->Prop}(h:m.Ok fun a=>(f a).Ok P):(m.bind f).Ok P:=by cases m<;>exact h
theorem Ok.imp{m:Res α}{P Q:α->Prop}(h:m.Ok P)(k:∀a,P a->Q a):m.Ok Q:=by cases m<;>first|exact k _ h|exact h
theorem Ok.ex{m:Res α}{P:α->Prop}(h:m.Ok P):∃a,m=.ok a/\P a:=by
 cases m with
 |ok a=>exact⟨a,rfl,h⟩
 |err j=>exact h.elim
 |stuck=>exact h.elim
def OkE(m:Res α)(Er:Nat->Prop)(P:α->Prop):Prop:=match m with| .ok a=>P a| .err j=>Er j| .stuck=>False
theorem okE_bind{m:Res α}{f:α->Res β}{Er:Nat->Prop}{P:β->Prop}(h:(m.bind f).OkE Er P):m.OkE Er fun a=>(f a).OkE Er P:=by cases m<;>exact h
theorem OkE.imp{m:Res α}{Er:Nat->Prop}{P Q:α->Prop}(h:m.OkE Er P)(k:∀a,P a->Q a):m.OkE Er Q:=by cases m<;>first|exact k _ h|exact h
theorem Ok.e{m:Res α}{Er:Nat->Prop}{P:α->Prop}(h:m.Ok P):m.OkE Er P:=by
 cases m with
 |ok a=>exact h
 |err j=>exact h.elim
 |stuck=>exact h.elim
@[simp] theorem bind_ok'(a:α)(f:α->Res β):(Res.ok a).bind f=f a:=rfl
end Res
abbrev cap:Nat:=100000
def eJ(b:Prop)[Decidable b]{α:Type}(a:α):Res α:=if b then .ok a else .stuck
theorem bj{b:Prop}[Decidable b]{α:Type}{a:α}(h:b):eJ b a=.ok a:=if_pos h
theorem aZ{b:Prop}[Decidable b]{α:Type}{a:α}{Er:Nat->Prop}{P:α->Prop}(h:(eJ b a).OkE Er P):b/\P a:=by
 unfold eJ at h;by_cases hb:b;·rw[if_pos hb]at h;exact⟨hb,h⟩
 ·rw[if_neg hb]at h;exact h.elim
def lQ{α:Type}:Option α->Res α
 |some a=>.ok a
 |none=>.stuck
theorem eQ{α:Type}{o:Option α}{Er:Nat->Prop}{P:α->Prop}(h:(lQ o).OkE Er P):∃a,o=some a/\P a:=by
 cases o with
 |none=>exact h.elim
 |some a=>exact⟨a,rfl,h⟩
abbrev Tx:=List Nat
def cP(i:Int):Int:=if i<0 then -i else i
def jb(i j:Int):Res Int:=eJ ((-(2^64)<i/\i<2^64)\/(-(2^64)<j/\j<2^64))<|i*j
def jG(i j:Int):Res Int:=eJ (0<j/\j<1073741824)<|i/j
def jH(i j:Int):Res Int:=eJ (0<j)<|i%j
def ixN(n:Nat)(i:Int):Option Nat:=if 0<=i then(if i<n then some i.toNat else none)else if -(n:Int)<=i then some (i+n).toNat else none
def sX{α:Type}(xs:List α)(i:Int):Option α:=(ixN xs.length i).bind fun j=>xs[j]?
theorem q0{α:Type}{xs:List α}{j:Nat}{v:α}(h:xs[j]? =some v):sX xs (j:Int)=some v:=by
 have hl:j<xs.length:=(DR.mp h).1;unfold sX ixN;rw[if_pos (by omega),if_pos (by omega),Fj];exact h
theorem u4{α:Type}{xs:List α}{i:Int}(h0:0<=i)(h1:i<xs.length):∃h:i.toNat<xs.length,sX xs i=some xs[i.toNat]:=by
 have h2:i.toNat<xs.length:=by omega
 refine⟨h2,?_⟩;have:=q0 (xs:=xs) (j:=i.toNat) (v:=xs[i.toNat]) (by simp[h2]);rw[KD h0]at this;exact this
def fc{α:Type}(xs:List α)(i:Int):Res α:=lQ<|sX xs i
def eR(x:Tx)(i:Int):Res Tx:=(eJ (x.length<=cap) x).bind fun x=>(lQ<|sX x i).bind fun c=>.ok [c]
def jc(a b:Tx):Res Tx:=eJ (a.length+b.length<=cap)<|a++b
def wL{α:Type}(a b:List α):Res (List α):=eJ (a.length+b.length<=cap)<|a++b
def fW{α:Type}(a:List α)(x:α):Res (List α):=eJ (a.length<cap)<|a++[x]
def zq(a:Tx)(n:Int):Res Tx:=match a with
 | [c]=>eJ (0<=n/\n<=cap)<|Hw n.toNat c
 |_=>.stuck
def zr(x:Tx):Res Int:=eJ (x.length<=cap) (x.length:Int)
def sIx(n d:Nat):Option Int->Nat
 |none=>d
 |some v=>if v<0 then(v+(n:Int)).toNat else min v.toNat n
def cut{α:Type}(l:List α)(lo hi:Option Int):List α:=(l.drop<|sIx l.length 0 lo).take (sIx l.length l.length hi-sIx l.length 0 lo)
def rD(x:Tx)(lo hi:Option Int):Res Tx:=eJ (x.length<=cap)<|cut x lo hi
def hV{α:Type}(xs:List α)(i:Int)(x:α):Res (List α):=(lQ<|ixN xs.length i).bind fun j=>.ok<|xs.set j x
def u5(x:Tx)(c:Nat):Option Nat:=x.findIdx? (· ==c)
def jd(x y:Tx):Res Int:=match y with
 | [c]=>(lQ<|u5 x c).bind fun j=>.ok (j:Int)
 |_=>.stuck
def nc(xs:List Tx):Res Tx:=eJ (xs.flatten.length<=cap) xs.flatten
def look{κ α:Type}[DecidableEq κ](kvs:List (κ×α))(k:κ):Option α:=(kvs.find? fun p=>decide<|p.1=k).map (·.2)
def getD{κ α:Type}[DecidableEq κ](kvs:List (κ×α))(k:κ):Res α:=lQ<|look kvs k
def je{α β:Type}(f:α->Res β):List α->Res (List β)
 | []=>.ok []
 |a::r=>(f a).bind fun b=>(je f r).bind fun bs=>.ok (b::bs)
def dv{α β:Type}(xs:List α)(f:α->Res β):Res (List β):=(eJ (xs.length<=cap) xs).bind fun xs=>je f xs
def hW{α β:Type}(f:α->Res (Option β)):List α->Res (List β)
 | []=>.ok []
 |a::r=>(f a).bind fun b=>(hW f r).bind fun bs=>.ok (match b with|some b=>b::bs|none=>bs)
def q9{α β:Type}(xs:List α)(f:α->Res (Option β)):Res (List β):=(eJ (xs.length<=cap) xs).bind fun xs=>hW f xs
def bB{α S:Type}(f:α->S->Res S):List α->S->Res S
 | [],s=>.ok s
 |a::r,s=>(f a s).bind fun s=>bB f r s
inductive Fl(γ S:Type) where
 |nx (s:S)|bk (s:S)|rt (r:γ)
def u6{S γ:Type}(k:S->Res (Fl γ S)):Fl γ S->Res (Fl γ S)
 | .nx s=>k s
 | .bk s=>.ok<|.nx s
 | .rt x=>.ok<|.rt x
def cQ{α S γ:Type}(f:α->S->Res (Fl γ S)):List α->S->Res (Fl γ S)
 | [],s=>.ok<|.nx s
 |a::r,s=>(f a s).bind (u6<|cQ f r)
def fe(n:Int):List Int:=(F2 n.toNat).map fun(i:Nat)=>(i:Int)
def fX(n:Int):Res (List Int):=eJ (-(2^62)<=n/\n<2^62)<|fe n
def gJ{α:Type}(xs:List α):List (Int×α):=(F2 xs.length).zipWith (fun(i:Nat)x=>((i:Int),x)) xs
def bq(x:Tx):List Tx:=x.map fun c=>[c]
def iN(xs:List Int):List Int:=xs.mergeSort fun a b=>decide<|a<=b
theorem iZ(xs:List Int):(iN xs).Perm xs:=KG _ _
theorem l5(xs:List Int):(iN xs).Pairwise (· <= ·):=by
 have:=JM (le:=fun a b:Int=>decide<|a<=b) (fun a b c h1 h2=>by simp at *;omega) (fun a b=>by simp;omega) xs;exact this.imp fun h=>by simpa using h
theorem rE{xs ys:List Int}(h:ys.Perm xs)(hs:ys.Pairwise (· <= ·)):ys=iN xs:=
 JB (le:=(· <= ·)) (fun a b _ _ h1 h2=>by omega) hs (l5 xs) (h.trans (iZ xs).symm)
def u7(xs:List Int):Res (List Int):=eJ (xs.length<64)<|iN xs
def u9{α:Type}:List α->Res (α×α×α)
 | [a,b,c]=>.ok (a,b,c)
 |_=>.stuck
theorem qa{α β:Type}{f:α->Res β}{g:α->β}:∀{xs:List α},(∀x∈xs,f x=.ok (g x))->je f xs=.ok (xs.map g)
 | [],_=>rfl
 |a::r,h=>by
  unfold je;rw[h a<|E5 ..,Res.bind_ok',qa fun x hx=>h x<|E9 _ hx];rfl
theorem eB{α β:Type}{f:α->Res β}{g:α->β}{xs:List α}(hl:xs.length<=cap)(h:∀x∈xs,f x=.ok (g x)):dv xs f=.ok (xs.map g):=by
 unfold dv;rw[bj hl,Res.bind_ok',qa h]
end Mi
open Mi.Res renaming okE_bind->DE,bind_ok'->DG,ok->DK,stuck->GZ
open Mi.Res.Ok renaming imp->FT
open Mi.Res.OkE renaming imp->En
namespace Wb
open PySem L2 Mi
variable{Er:Nat->Prop}
structure Wd where
 G:Hp
 H:Hp
 ok:Same G H
structure Ext(W W':Wd):Prop where
 g:Same W.G W'.G
 h:Same W.H W'.H
 k:∀p,W.H p≠none->W'.G p=W.G p
theorem Ext.refl(W:Wd):Ext W W:=⟨.refl _,.refl _,fun _ _=>rfl⟩
theorem Ext.trans{W W1 W2:Wd}(a:Ext W W1)(b:Ext W1 W2):Ext W W2:=⟨a.g.trans b.g,a.h.trans b.h,fun p hp=>by
 obtain⟨o,ho⟩:=J8.mp hp;rw[b.k p (by rw[a.h p o ho];exact fun z=>nomatch z),a.k p hp]⟩
theorem Same.upd2{G H:Hp}(h:Same G H)(p:Addr)(o:HO):Same (cn G p o) (cn H p o):=fun a u e=>by
 by_cases z:a=p;·subst z;rw[aI]at e ⊢;exact e
 ·rw[aD z]at e ⊢;exact h _ _ e
def Wd.new(W:Wd)(p:Addr)(o:HO):Wd:=⟨cn W.G p o,cn W.H p o,Same.upd2 W.ok p o⟩
theorem Wd.gnone(W:Wd){p:Addr}(h:W.H p=none):W.G p=none:=aR W.ok h
theorem Ext.new{W:Wd}{p:Addr}(o:HO)(h:W.H p=none):Ext W (W.new p o):=⟨cO<|W.gnone h,cO h,fun q hq=>aD fun z=>hq<|z▸h⟩
def Wd.mut(W:Wd)(p:Addr)(o:HO)(h:W.G p=none):Wd:=⟨W.G,cn W.H p o,rp W.ok h⟩
theorem Ext.own{W:Wd}{p:Addr}(o:HO)(h:W.H p=none):Ext W (W.mut p o<|W.gnone h):=⟨.refl _,cO h,fun _ _=>rfl⟩
def Wd.frz(W:Wd)(p:Addr)(o:HO)(h:W.H p=some o):Wd:=⟨cn W.G p o,W.H,fun a u e=>by
 by_cases z:a=p;·subst z;rw[aI]at e;cases e;exact h
 ·rw[aD z]at e;exact W.ok _ _ e⟩
theorem Ext.mut{W0 W:Wd}{p:Addr}{o:HO}(e:Ext W0 W)(hp:W0.H p=none)(h:W.G p=none):Ext W0 (W.mut p o h):=
 ⟨e.g,fun a u z=>by show cn W.H p o a=_;rw[aD<|bX z hp];exact e.h _ _ z,e.k⟩
theorem Ext.frz{W0 W:Wd}{p:Addr}{o:HO}(e:Ext W0 W)(hp:W0.H p=none)(h:W.H p=some o)(hg:W.G p=none):Ext W0 (W.frz p o h):=
 ⟨e.g.trans<|cO hg,e.h,fun q hq=>by show cn W.G p o q=_;rw[aD (fun z=>hq (by rw[z];exact hp))];exact e.k q hq⟩
abbrev Rw(α:Type):=Wd->α->V->Prop
class MonoW{α:Type}(R:Rw α):Prop where
 mono:∀{W W':Wd}{a:α}{v:V},Ext W W'->R W a v->R W' a v
def sh{α:Type}(R:Rp α):Rw α:=fun W a v=>R W.G a v
instance zkeep8{α:Type}{R:Rp α}[Mono R]:MonoW (sh R):=⟨fun e h=>DD (R:=R) e.g h⟩
def pk{α:Type}(R:Rp α):Rw (List α):=fun W xs v=>∃p vs,v=.ref p/\W.H p=some (.lst vs)/\LR R W.G xs vs
instance zkeep9{α:Type}{R:Rp α}[Mono R]:MonoW (pk R):=⟨fun e⟨p,vs,a,b,c⟩=>⟨p,vs,a,e.h _ _ b,c.same e.g⟩⟩
theorem pk.of{α:Type}{R:Rp α}{W:Wd}{xs:List α}{v:V}(h:isL R W.G xs v):pk R W xs v:=by
 obtain⟨p,vs,a,b,c⟩:=h;exact⟨p,vs,a,W.ok _ _ b,c⟩
structure Ow{α:Type}(R:Rp α)(W:Wd)(p:Addr)(xs:List α):Prop where
 g:W.G p=none
 h:∃vs,W.H p=some (.lst vs)/\LR R W.G xs vs
theorem Ow.mono{α:Type}{R:Rp α}[Mono R]{W W':Wd}{p:Addr}{xs:List α}(o:Ow R W p xs)(e:Ext W W'):Ow R W' p xs:=by
 obtain⟨vs,a,b⟩:=o.h;exact⟨by rw[e.k p (by rw[a];exact fun z=>nomatch z)];exact o.g,vs,e.h _ _ a,b.same e.g⟩
theorem Ow.pk{α:Type}{R:Rp α}{W:Wd}{p:Addr}{xs:List α}(o:Ow R W p xs):pk R W xs (.ref p):=by
 obtain⟨vs,a,b⟩:=o.h;exact⟨p,vs,rfl,a,b⟩
theorem Ow.frz{α:Type}{R:Rp α}[Mono R]{W0 W:Wd}{p:Addr}{xs:List α}(o:Ow R W p xs)(e:Ext W0 W)(hp:W0.H p=none):
  ∃W',W'.H=W.H/\Ext W0 W'/\Same W.G W'.G/\isL R W'.G xs (.ref p)/\∀q,q≠p->W'.G q=W.G q:=by
 obtain⟨vs,a,b⟩:=o.h;exact⟨W.frz p _ a,rfl,e.frz hp a o.g,cO o.g,⟨p,vs,rfl,aI,b.same<|cO o.g⟩,fun q hq=>aD hq⟩
theorem Ow.keep{α:Type}{R:Rp α}[Mono R]{W W':Wd}{q:Addr}{xs:List α}(o:Ow R W q xs)(hH:W'.H q=W.H q)(hs:Same W.G W'.G)(hg:W'.G q=W.G q):Ow R W' q xs:=by
 obtain⟨vs,a,b⟩:=o.h;exact⟨by rw[hg];exact o.g,vs,by rw[hH];exact a,b.same hs⟩
def EV(Er:Nat->Prop){α:Type}(t:TE)(σ:St)(W:Wd)(R:Rw α)(m:Res α):Prop:=∀W1,Ext W W1->∀Q:VK,m.OkE Er (fun a=>∀v W2,Ext W1 W2->R W2 a v->Q v W2.H)->t σ W1.H Q
def EVo(Er:Nat->Prop){α:Type}(t:TE)(σ:St)(W:Wd)(R:Rp α)(m:Res (List α)):Prop:=∀W1,Ext W W1->∀Q:VK,m.OkE Er (fun xs=>∀p W2,Ext W1 W2->W1.H p=none->Ow R W2 p xs->Q (.ref p) W2.H)->t σ W1.H Q
def TV(Er:Nat->Prop)(t:TT)(σ:St)(W:Wd)(m:Res Bool):Prop:=∀W1,Ext W W1->∀Q:Bool->Hp->Prop,m.OkE Er (fun b=>∀W2,Ext W1 W2->Q b W2.H)->t σ W1.H Q
section
variable{α β γ:Type}{t ta tb:TE}{σ:St}{W W0 W':Wd}{K:DJ}
theorem EV.imp{R R':Rw α}{m:Res α}(h:EV Er t σ W R m)(f:∀W a v,R W a v->R' W a v):EV Er t σ W R' m:=fun W1 e1 Q k=>h W1 e1 Q<|k.imp fun a ka v W2 e2 r=>ka v W2 e2<|f _ _ _ r
theorem EVo.ev{R:Rp α}[Mono R]{m:Res (List α)}(h:EVo Er t σ W R m):EV Er t σ W (sh<|isL R) m:=fun W1 e1 Q k=>h W1 e1 Q (k.imp fun xs kx p W2 e2 hp o=>by
 obtain⟨W3,hH,e3,_,r,_⟩:=o.frz e2 hp;rw[<-hH];exact kx (.ref p) W3 e3 r)
theorem EVo.pk{R:Rp α}[Mono R]{m:Res (List α)}(h:EVo Er t σ W R m):EV Er t σ W (pk R) m:=fun W1 e1 Q k=>h W1 e1 Q<|k.imp fun xs kx p W2 e2 hp o=>kx (.ref p) W2 e2 o.pk
theorem EV.pk{R:Rp α}{m:Res (List α)}(h:EV Er t σ W (sh<|isL R) m):EV Er t σ W (pk R) m:=h.imp fun _ _ _ r=>pk.of r
theorem jI{R:Rw α}[MonoW R]{i:Nat}{v:V}{a:α}(r:R W a v)(h:σ[i]? =some (some v):=by rfl):EV Er (gW i) σ W R (.ok a):=fun W1 e1 Q k=>⟨v,h,k v W1 (.refl _)<|MonoW.mono e1 r⟩
theorem cR{R:Rp α}[Mono R]{i:Nat}{p:Addr}{a:List α}(r:Ow R W p a)(h:σ[i]? =some (some<|.ref p):=by rfl):EV Er (gW i) σ W (pk R) (.ok a):=jI r.pk h
def isB:Rp Bool:=fun _ b v=>v=.bl b
instance zkeep10:Mono isB:=⟨fun _ h=>h⟩
def isO(R:Rp α):Rp (Option α):=fun H o v=>match o with|none=>v=.non|some a=>R H a v/\v≠.non
instance zkeep12{R:Rp α}[Mono R]:Mono (isO R):=⟨fun{H H' m v}e h=>by
 cases m with
 |none=>exact h
 |some a=>exact⟨DD e h.1,h.2⟩⟩
theorem ah{i:Int}:EV Er (tC<|.int i) σ W (sh isI) (.ok i):=fun W1 _ Q k=>k _ W1 (.refl _) rfl
theorem aP{x:Str}{l:Tx}(h:x=sOf l):EV Er (tC<|.str x) σ W (sh isS) (.ok l):=fun W1 _ Q k=>k _ W1 (.refl _) (by rw[h];rfl)
theorem cA{b:Bool}:EV Er (tC<|.bl b) σ W (sh isB) (.ok b):=fun W1 _ Q k=>k _ W1 (.refl _) rfl
theorem lR{R:Rp α}:EV Er (tC .non) σ W (sh<|isO R) (.ok none):=fun W1 _ Q k=>k _ W1 (.refl _) rfl
theorem rF{r:R2}{Ra:Rw α}[MonoW Ra]{Rb:Rw β}{R:Rw γ}{ma:Res α}{mb:Res β}{f:α->β->Res γ}(ha:EV Er ta σ W Ra ma)(hb:EV Er tb σ W Rb mb)
  (h:∀W a b x y Q,Ra W a x->Rb W b y->(f a b).OkE Er (fun c=>∀v W2,Ext W W2->R W2 c v->Q v W2.H)->r x y W.H Q):EV Er (gV r ta tb) σ W R (ma.bind fun a=>mb.bind fun b=>f a b):=fun W1 e1 Q k=>by
 refine ha W1 e1 _<|(DE k).imp fun a ka x W2 e2 hx=>?_;refine hb W2 (e1.trans e2) _<|(DE ka).imp fun b kb y W3 e3 hy=>?_;exact h W3 a b x y Q (MonoW.mono e3 hx) hy<|kb.imp fun c kc v W4 e4 hv=>kc v W4 ((e2.trans e3).trans e4) hv
theorem CQ{r:V->Hp->VK->Prop}{Ra:Rw α}{R:Rw γ}{ma:Res α}{f:α->Res γ}(ha:EV Er ta σ W Ra ma)
  (h:∀W a x Q,Ra W a x->(f a).OkE Er (fun c=>∀v W2,Ext W W2->R W2 c v->Q v W2.H)->r x W.H Q):EV Er (Bu r ta) σ W R (ma.bind f):=fun W1 e1 Q k=>by
 refine ha W1 e1 _<|(DE k).imp fun a ka x W2 e2 hx=>?_;exact h W2 a x Q hx<|ka.imp fun c kc v W4 e4 hv=>kc v W4 (e2.trans e4) hv
section
variable{ma mb:Res Int}
theorem aN{g:Int->Int->Int}(ha:EV Er ta σ W (sh isI) ma)(hb:EV Er tb σ W (sh isI) mb):EV Er (gV (wa fun i j=>.int<|g i j) ta tb) σ W (sh isI) (ma.bind fun a=>mb.bind fun b=>.ok<|g a b):=
 rF ha hb fun W a b x y Q hx hy k=>by cases hx;cases hy;exact⟨a,b,rfl,rfl,k _ W (.refl _) rfl⟩
theorem uc{C:Int->Int->Prop}{g:Int->Int->Int}{f:Int->Int->Res Int}(hf:∀a b P,(f a b).OkE Er P->C a b/\P (g a b))(ha:EV Er ta σ W (sh isI) ma)(hb:EV Er tb σ W (sh isI) mb):
  EV Er (gV (rI C fun i j=>.int<|g i j) ta tb) σ W (sh isI) (ma.bind fun a=>mb.bind fun b=>f a b):=
 rF ha hb fun W a b x y Q hx hy k=>by cases hx;cases hy;exact⟨a,b,rfl,rfl,(hf a b _ k).1,(hf a b _ k).2 _ W (.refl _) rfl⟩
theorem iO(ha:EV Er ta σ W (sh isI) ma)(hb:EV Er tb σ W (sh isI) mb):EV Er (gV (rI CMul fun i j=>.int<|i*j) ta tb) σ W (sh isI) (ma.bind fun a=>mb.bind fun b=>jb a b):=uc (fun a b P h=>by unfold jb at h;obtain⟨h1,h2⟩:=aZ h;exact⟨h1,h2⟩) ha hb
theorem qb(ha:EV Er ta σ W (sh isI) ma)(hb:EV Er tb σ W (sh isI) mb):EV Er (gV (rI Ar fun i j=>.int<|i/j) ta tb) σ W (sh isI) (ma.bind fun a=>mb.bind fun b=>jG a b):=uc (fun a b P h=>by unfold jG at h;obtain⟨h1,h2⟩:=aZ h;exact⟨h1,h2⟩) ha hb
theorem iP(ha:EV Er ta σ W (sh isI) ma)(hb:EV Er tb σ W (sh isI) mb):EV Er (gV (rI (fun _ j=>0<j) fun i j=>.int<|i%j) ta tb) σ W (sh isI) (ma.bind fun a=>mb.bind fun b=>jH a b):=uc (fun a b P h=>by unfold jH at h;obtain⟨h1,h2⟩:=aZ h;exact⟨h1,h2⟩) ha hb
theorem ao{C:Int->Int->Prop}{g:Int->Int->Int}{n:Int}(hn:∀a,C a n)(ha:EV Er ta σ W (sh isI) ma):EV Er (gV (rI C fun i j=>.int<|g i j) ta<|tC<|.int n) σ W (sh isI) (ma.bind fun a=>.ok<|g a n):=
 fun W1 e1 Q k=>ha W1 e1 _ ((DE k).imp fun a ka x W2 e2 hx=>by cases hx;exact⟨a,n,rfl,rfl,hn a,ka _ W2 e2 rfl⟩)
end
end
end Wb
open Wb.EV renaming pk->FW
open Wb.EVo renaming ev->FR,pk->Ir
open Wb.Ext renaming new->HI
open Wb.MonoW renaming mono->EG
namespace Wb
open PySem L2 Mi
variable{Er:Nat->Prop}
section
variable{α β γ δ:Type}{t ta tb tc:TE}{σ:St}{W W0 W':Wd}{K:DJ}
theorem rG{n:Nat}(h:n<=cap):n<=sizeLine:=by rw[F3];unfold cap at h;omega
section
variable{ma mb:Res Int}
theorem fE(ha:EV Er ta σ W (sh isI) ma):EV Er (Bu (rU fun i=>.int<|-i) ta) σ W (sh isI) (ma.bind fun a=>.ok<|-a):=
 CQ ha fun W a x Q hx k=>by cases hx;exact⟨a,rfl,k _ W (.refl _) rfl⟩
theorem bH{g:Int->Int->Bool}(ha:EV Er ta σ W (sh isI) ma)(hb:EV Er tb σ W (sh isI) mb):EV Er (gV (wa fun i j=>.bl<|g i j) ta tb) σ W (sh isB) (ma.bind fun a=>mb.bind fun b=>.ok<|g a b):=
 rF ha hb fun W a b x y Q hx hy k=>by cases hx;cases hy;exact⟨a,b,rfl,rfl,k _ W (.refl _) rfl⟩
end
theorem dI{a b:Int}:decide (Hr a=Hr b)=decide (a=b):=by rw[FA];simp
theorem dS{a b:Tx}:decide (JR (sOf a)=JR (sOf b))=decide (a=b):=by
 rw[FA,decide_eq_true_eq,decide_eq_true_eq];exact⟨fun h=>pW<|JR.inj h,fun h=>by rw[h]⟩
theorem cB{ma mb:Res Int}(ha:EV Er ta σ W (sh isI) ma)(hb:EV Er tb σ W (sh isI) mb):EV Er (gV Co ta tb) σ W (sh isB) (ma.bind fun a=>mb.bind fun b=>.ok<|decide<|a=b):=
 rF ha hb fun W a b x y Q hx hy k=>by cases hx;cases hy;exact⟨rfl,by rw[dI];exact k _ W (.refl _) rfl⟩
theorem fF{ma mb:Res Tx}(ha:EV Er ta σ W (sh isS) ma)(hb:EV Er tb σ W (sh isS) mb):EV Er (gV Co ta tb) σ W (sh isB) (ma.bind fun a=>mb.bind fun b=>.ok<|decide<|a=b):=
 rF ha hb fun W a b x y Q hx hy k=>by cases hx;cases hy;exact⟨rfl,by rw[dS];exact k _ W (.refl _) rfl⟩
theorem lS{ma mb:Res Int}(ha:EV Er ta σ W (sh isI) ma)(hb:EV Er tb σ W (sh isI) mb):EV Er (gV Cp ta tb) σ W (sh isB) (ma.bind fun a=>mb.bind fun b=>.ok<|!decide (a=b)):=
 rF ha hb fun W a b x y Q hx hy k=>by cases hx;cases hy;exact⟨rfl,by rw[dI];exact k _ W (.refl _) rfl⟩
theorem gO{ma mb:Res Tx}(ha:EV Er ta σ W (sh isS) ma)(hb:EV Er tb σ W (sh isS) mb):EV Er (gV Cp ta tb) σ W (sh isB) (ma.bind fun a=>mb.bind fun b=>.ok<|!decide (a=b)):=
 rF ha hb fun W a b x y Q hx hy k=>by cases hx;cases hy;exact⟨rfl,by rw[dS];exact k _ W (.refl _) rfl⟩
theorem oN{R:Rp α}{ma:Res (Option α)}(ha:EV Er ta σ W (sh<|isO R) ma):EV Er (gV (fun x y H Q=>y=.non/\Q (.bl<|decide<|x=.non) H) ta<|tC .non) σ W (sh isB) (ma.bind fun a=>.ok a.isNone):=fun W1 e1 Q k=>
 ha W1 e1 _ ((DE k).imp fun a ka x W2 e2 hx=>⟨rfl,by
  have e:decide (x=V.non)=a.isNone:=by
   cases a with
   |none=>cases hx;rfl
   |some b=>rw[decide_eq_false hx.2];rfl
  rw[e];exact ka _ W2 e2 rfl⟩)
theorem ar{m:Res Bool}(h:EV Er t σ W (sh isB) m):TV Er (yq t) σ W m:=fun W1 e1 Q k=>h W1 e1 _<|k.imp fun b kb v W2 e2 hv=>⟨b,hv,kb W2 e2⟩
theorem fj{m:Res Bool}(h:EV Er t σ W (sh isB) m):TV Er (tB t) σ W m:=fun W1 e1 Q k=>h W1 e1 _<|k.imp fun b kb v W2 e2 hv=>⟨b,hv,kb W2 e2⟩
theorem dg{t:TT}{m:Res Bool}(h:TV Er t σ W m):TV Er (Ak t) σ W (m.bind fun b=>.ok<|!b):=fun W1 e1 Q k=>h W1 e1 _<|(DE k).imp fun b kb W2 e2=>kb W2 e2
theorem fG{t u:TT}{m n:Res Bool}(h:TV Er t σ W m)(g:TV Er u σ W n):TV Er (Aj t u) σ W (m.bind fun b=>if b then n else .ok false):=fun W1 e1 Q k=>h W1 e1 _ ((DE k).imp fun b kb W2 e2=>by
 cases b with
 |true=>exact g W2 (e1.trans e2) _ (kb.imp fun c kc W3 e3=>kc W3<|e2.trans e3)
 |false=>exact kb W2 e2)
theorem eS{t u:TT}{m n:Res Bool}(h:TV Er t σ W m)(g:TV Er u σ W n):TV Er (CC t u) σ W (m.bind fun b=>if b then .ok true else n):=fun W1 e1 Q k=>h W1 e1 _ ((DE k).imp fun b kb W2 e2=>by
 cases b with
 |true=>exact kb W2 e2
 |false=>exact g W2 (e1.trans e2) _ (kb.imp fun c kc W3 e3=>kc W3 (e2.trans e3)))
theorem oO{m n:Res Bool}(h:EV Er ta σ W (sh isB) m)(g:EV Er tb σ W (sh isB) n):EV Er (yn ta tb) σ W (sh isB) (m.bind fun b=>if b then n else .ok false):=fun W1 e1 Q k=>h W1 e1 _ ((DE k).imp fun b kb v W2 e2 hv=>⟨b,hv,by
 cases b with
 |true=>exact g W2 (e1.trans e2) _ (kb.imp fun c kc v W3 e3 hv=>kc v W3 (e2.trans e3) hv)
 |false=>exact kb _ W2 e2 rfl⟩)
theorem AK{m n:Res Bool}(h:EV Er ta σ W (sh isB) m)(g:EV Er tb σ W (sh isB) n):EV Er (Al ta tb) σ W (sh isB) (m.bind fun b=>if b then .ok true else n):=fun W1 e1 Q k=>h W1 e1 _ ((DE k).imp fun b kb v W2 e2 hv=>⟨b,hv,by
 cases b with
 |true=>exact kb _ W2 e2 rfl
 |false=>exact g W2 (e1.trans e2) _ (kb.imp fun c kc v W3 e3 hv=>kc v W3 (e2.trans e3) hv)⟩)
theorem jJ{R:Rw α}{c:TT}{mc:Res Bool}{m n:Res α}(hc:TV Er c σ W mc)(h:EV Er ta σ W R m)(g:EV Er tb σ W R n):EV Er (CD c ta tb) σ W R (mc.bind fun b=>if b then m else n):=fun W1 e1 Q k=>hc W1 e1 _ ((DE k).imp fun b kb W2 e2=>by
 cases b with
 |true=>exact h W2 (e1.trans e2) _ (kb.imp fun c kc v W3 e3 hv=>kc v W3 (e2.trans e3) hv)
 |false=>exact g W2 (e1.trans e2) _ (kb.imp fun c kc v W3 e3 hv=>kc v W3 (e2.trans e3) hv))
theorem gq{ma mb:Res Tx}(ha:EV Er ta σ W (sh isS) ma)(hb:EV Er tb σ W (sh isS) mb):EV Er (gV (fun x y H Q=>∃i j,x=.str i/\y=.str j/\i.length+j.length<=sizeLine/\Q (.str<|i++j) H) ta tb) σ W (sh isS) (ma.bind fun a=>mb.bind fun b=>jc a b):=
 rF ha hb fun W a b x y Q hx hy k=>by
  cases hx;cases hy;obtain⟨h1,h2⟩:=aZ k;exact⟨_,_,rfl,rfl,by rw[cG,cG];exact rG h1,by rw[jA];exact h2 _ W (.refl _) rfl⟩
theorem wM{ma:Res Tx}{mb:Res Int}(ha:EV Er ta σ W (sh isS) ma)(hb:EV Er tb σ W (sh isI) mb):EV Er (gV (fun x y H Q=>∃c n,x=.str (sOf [c])/\y=.int n/\0<=n/\n<=100000/\Q (.str<|sOf<|Hw n.toNat c) H) ta tb) σ W (sh isS) (ma.bind fun a=>mb.bind fun b=>zq a b):=
 rF ha hb fun W a b x y Q hx hy k=>by
  cases hx;cases hy
  match a,k with
  | [c],k=>
   obtain⟨h1,h2⟩:=aZ k;exact⟨c,b,rfl,rfl,h1.1,h1.2,h2 _ W (.refl _) rfl⟩
theorem bE{ma:Res Tx}{mb:Res Int}(ha:EV Er ta σ W (sh isS) ma)(hb:EV Er tb σ W (sh isI) mb):EV Er (gV Ax ta tb) σ W (sh isS) (ma.bind fun a=>mb.bind fun b=>eR a b):=
 rF ha hb fun W a b x y Q hx hy k=>by
  cases hx;cases hy;obtain⟨h1,h2⟩:=aZ<|DE k;obtain⟨c,h3,h4⟩:=eQ<|DE h2;exact⟨_,b,c,rfl,rfl,by rw[cG];exact rG h1,by rw[pV];exact h3,h4 _ W (.refl _) rfl⟩
theorem AL{R:Rw α}{r:V->Option Int->Option Int->Hp->VK->Prop}{Ra:Rw β}[MonoW Ra]{ma:Res β}{tl th:TO}{ml mh:Res (Option Int)}{f:β->Option Int->Option Int->Res α}(ha:EV Er ta σ W Ra ma)
  (hl:∀W1,Ext W W1->∀Q:Option Int->Hp->Prop,ml.OkE Er (fun o=>∀W2,Ext W1 W2->Q o W2.H)->tl σ W1.H Q) (hh:∀W1,Ext W W1->∀Q:Option Int->Hp->Prop,mh.OkE Er (fun o=>∀W2,Ext W1 W2->Q o W2.H)->th σ W1.H Q)
  (h:∀W a x lo hi Q,Ra W a x->(f a lo hi).OkE Er (fun c=>∀v W2,Ext W W2->R W2 c v->Q v W2.H)->r x lo hi W.H Q):EV Er (Bx r ta tl th) σ W R (ma.bind fun a=>ml.bind fun lo=>mh.bind fun hi=>f a lo hi):=fun W1 e1 Q k=>
 ha W1 e1 _ ((DE k).imp fun a ka x W2 e2 hx=>hl W2 (e1.trans e2) _ ((DE ka).imp fun lo kl W3 e3=>hh W3 ((e1.trans e2).trans e3) _ ((DE kl).imp fun hi kh W4 e4=>
  h W4 a x lo hi Q (EG (e3.trans e4) hx) (kh.imp fun c kc v W5 e5 hv=>kc v W5 (((e2.trans e3).trans e4).trans e5) hv))))
theorem jK:∀W1,Ext W W1->∀Q:Option Int->Hp->Prop,(DK (none:Option Int)).OkE Er (fun o=>∀W2,Ext W1 W2->Q o W2.H)->pR σ W1.H Q:=fun W1 _ Q k=>k W1<|.refl _
theorem jL{m:Res Int}(h:EV Er t σ W (sh isI) m):∀W1,Ext W W1->∀Q:Option Int->Hp->Prop,(m.bind fun i=>.ok<|some i).OkE Er (fun o=>∀W2,Ext W1 W2->Q o W2.H)->tH t σ W1.H Q:=fun W1 e1 Q k=>
 h W1 e1 _ ((DE k).imp fun i ki v W2 e2 hv=>⟨i,hv,ki W2 e2⟩)
theorem qc{ma:Res Tx}{tl th:TO}{ml mh:Res (Option Int)}(ha:EV Er ta σ W (sh isS) ma)
  (hl:∀W1,Ext W W1->∀Q:Option Int->Hp->Prop,ml.OkE Er (fun o=>∀W2,Ext W1 W2->Q o W2.H)->tl σ W1.H Q) (hh:∀W1,Ext W W1->∀Q:Option Int->Hp->Prop,mh.OkE Er (fun o=>∀W2,Ext W1 W2->Q o W2.H)->th σ W1.H Q):
  EV Er (Bx (fun x lo hi H Q=>∃l,x=.str (sOf l)/\l.length<=sizeLine/\Q (.str<|sOf<|ja l lo hi) H) ta tl th) σ W (sh isS) (ma.bind fun a=>ml.bind fun lo=>mh.bind fun hi=>rD a lo hi):=
 AL ha hl hh fun W a x lo hi Q hx k=>by
  cases hx;obtain⟨h1,h2⟩:=aZ k;exact⟨a,rfl,rG h1,h2 _ W (.refl _) rfl⟩
theorem AM(x:Tx)(c j:Nat)(h:u5 x c=some j):J7 (sOf x) (sOf [c])=(j:Int):=by
 unfold u5 at h;rw[List.findIdx?_eq_some_iff_getElem]at h;obtain⟨hj,h1,h2⟩:=h;have hat:∀i,StrLaws.At (sOf x) (sOf [c]) (sOf x).length i↔x[i]? =some c:=fun i=>by
  have:=StrLaws.subAt_one (sOf x) c i;rw[pV]at this;exact this
 unfold J7;rcases StrLaws.occ_head (sOf x) (sOf [c]) 1 (DQ _)with⟨_,hn⟩|⟨i,r,e,hi,hk⟩
 ·exact absurd ((hat j).mpr (by rw[DO hj];simpa using h1))<|hn j
 ·rw[e];have e2:=(hat i).mp hi;obtain⟨hil,e3⟩:=DR.mp e2;have:i=j:=by
   rcases Nat.lt_trichotomy i j with z|z|z;·exact absurd e3 (by simpa using h2 i z)
   ·exact z
   ·exact absurd ((hat j).mpr (by rw[DO hj];simpa using h1))<|hk j z
  rw[this]
theorem hX{ma mb:Res Tx}{K:DJ}(ha:EV Er ta σ W (sh isS) ma)(hb:EV Er tb σ W (sh isS) mb):EV Er (wH K "str" (fun x xs H Q=>∃a b,x=.str a/\xs=[.str b]/\0<=J7 a b/\Q (.int<|J7 a b) H) ta<|aL tb bV) σ W (sh isI) (ma.bind fun a=>mb.bind fun b=>jd a b):=fun W1 e1 Q k=>
 ha W1 e1 _ ((DE k).imp fun a ka x W2 e2 hx=>by
  cases hx;refine⟨rfl,hb W2 (e1.trans e2) _<|(DE ka).imp fun b kb y W3 e3 hy=>?_⟩;cases hy
  match b,kb with
  | [c],kb=>
   obtain⟨j,h1,h2⟩:=eQ (DE kb);have e:=AM a c j h1;exact⟨_,_,rfl,rfl,by rw[e];omega,by rw[e];exact h2 _ W3 (e2.trans e3) rfl⟩)
theorem Same.tup{H H':Hp}{a:Addr}{xs:List V}(e:Same H H')(h:SqT K H a xs):SqT K H' a xs:=by
 rcases h with(h|⟨o,h⟩)|h;·exact .inl<|.inl<|e _ _ h
 ·exact .inl<|.inr ⟨o,e _ _ h⟩
 ·exact .inr h
def isT2(K:DJ)(R1:Rp α)(R2:Rp β):Rp (α×β):=fun H a v=>∃p x y,v=.ref p/\SqT K H p [x,y]/\R1 H a.1 x/\R2 H a.2 y
def isT3(K:DJ)(R1:Rp α)(R2:Rp β)(R3:Rp γ):Rp (α×β×γ):=fun H a v=>∃p x y z,v=.ref p/\SqT K H p [x,y,z]/\R1 H a.1 x/\R2 H a.2.1 y/\R3 H a.2.2 z
instance zkeep14{R1:Rp α}{R2:Rp β}[Mono R1][Mono R2]:Mono (isT2 K R1 R2):=⟨fun e⟨p,x,y,h0,h,h1,h2⟩=>⟨p,x,y,h0,Same.tup e h,DD e h1,DD e h2⟩⟩
instance zkeep15{R1:Rp α}{R2:Rp β}{R3:Rp γ}[Mono R1][Mono R2][Mono R3]:Mono (isT3 K R1 R2 R3):=⟨fun e⟨p,x,y,z,h0,h,h1,h2,h3⟩=>⟨p,x,y,z,h0,Same.tup e h,DD e h1,DD e h2,DD e h3⟩⟩
theorem gr{R1:Rp α}{R2:Rp β}[Mono R1][Mono R2]{ma:Res α}{mb:Res β}(ha:EV Er ta σ W (sh R1) ma)(hb:EV Er tb σ W (sh R2) mb):EV Er (z8<|aL ta<|aL tb bV) σ W (sh<|isT2 K R1 R2) (ma.bind fun a=>mb.bind fun b=>.ok (a,b)):=fun W1 e1 Q k=>
 ha W1 e1 _ ((DE k).imp fun a ka x W2 e2 hx=>hb W2 (e1.trans e2) _ ((DE ka).imp fun b kb y W3 e3 hy=>⟨(by show 2<=sizeLine;decide),fun p hp=>
  kb (.ref p) (W3.new p (.tup [x,y])) ((e2.trans e3).trans (.new _ hp)) ⟨p,x,y,rfl,Mg aI,DD (HI _ hp).g (DD (R:=R1) e3.g hx),DD (R:=R2) (HI _ hp).g hy⟩⟩))
theorem bR{R1:Rp α}{R2:Rp β}{R3:Rp γ}[Mono R1][Mono R2][Mono R3]{ma:Res α}{mb:Res β}{mc:Res γ}(ha:EV Er ta σ W (sh R1) ma)(hb:EV Er tb σ W (sh R2) mb)(hc:EV Er tc σ W (sh R3) mc):
  EV Er (z8<|aL ta<|aL tb<|aL tc bV) σ W (sh<|isT3 K R1 R2 R3) (ma.bind fun a=>mb.bind fun b=>mc.bind fun c=>.ok (a,b,c)):=fun W1 e1 Q k=>
 ha W1 e1 _ ((DE k).imp fun a ka x W2 e2 hx=>hb W2 (e1.trans e2) _ ((DE ka).imp fun b kb y W3 e3 hy=>hc W3 ((e1.trans e2).trans e3) _ ((DE kb).imp fun c kc z W4 e4 hz=>⟨(by show 3<=sizeLine;decide),fun p hp=>
  kc (.ref p) (W4.new p (.tup [x,y,z])) (((e2.trans e3).trans e4).trans (.new _ hp)) ⟨p,x,y,z,rfl,Mg aI,DD (HI _ hp).g (DD (R:=R1) (e3.trans e4).g hx),DD (R:=R2) (HI _ hp).g (DD (R:=R2) e4.g hy),DD (R:=R3) (HI _ hp).g hz⟩⟩)))
theorem aK{R:Rp α}{Rt:Rp β}{m:Res β}{i:Int}{f:β->α}(h:∀H b v,Rt H b v->∃p xs x,v=.ref p/\SqT K H p xs/\L2.atI xs i=some x/\R H (f b) x)(ha:EV Er ta σ W (sh Rt) m):EV Er (gV (zc K) ta<|tC<|.int i) σ W (sh R) (m.bind fun b=>.ok<|f b):=fun W1 e1 Q k=>
 ha W1 e1 _ ((DE k).imp fun b kb v W2 e2 hv=>by
  obtain⟨p,xs,x,h1,h2,h3,h4⟩:=h _ _ _ hv;exact⟨p,xs,i,x,h1,rfl,Same.tup W2.ok h2,h3,kb _ W2 e2 h4⟩)
theorem zt{R1:Rp α}{R2:Rp β}:∀H b v,isT2 K R1 R2 H b v->∃p xs x,v=.ref p/\SqT K H p xs/\L2.atI xs 0=some x/\R1 H b.1 x:=fun _ _ _⟨p,x,y,h0,h,h1,h2⟩=>⟨p,_,x,h0,h,rfl,h1⟩
theorem zu{R1:Rp α}{R2:Rp β}:∀H b v,isT2 K R1 R2 H b v->∃p xs x,v=.ref p/\SqT K H p xs/\L2.atI xs 1=some x/\R2 H b.2 x:=fun _ _ _⟨p,x,y,h0,h,h1,h2⟩=>⟨p,_,y,h0,h,rfl,h2⟩
theorem gD{R1:Rp α}{R2:Rp β}{R3:Rp γ}:∀H b v,isT3 K R1 R2 R3 H b v->∃p xs x,v=.ref p/\SqT K H p xs/\L2.atI xs 0=some x/\R1 H b.1 x:=fun _ _ _⟨p,x,y,z,h0,h,h1,h2,h3⟩=>⟨p,_,x,h0,h,rfl,h1⟩
theorem gP{R1:Rp α}{R2:Rp β}{R3:Rp γ}:∀H b v,isT3 K R1 R2 R3 H b v->∃p xs x,v=.ref p/\SqT K H p xs/\L2.atI xs 1=some x/\R2 H b.2.1 x:=fun _ _ _⟨p,x,y,z,h0,h,h1,h2,h3⟩=>⟨p,_,y,h0,h,rfl,h2⟩
theorem gQ{R1:Rp α}{R2:Rp β}{R3:Rp γ}:∀H b v,isT3 K R1 R2 R3 H b v->∃p xs x,v=.ref p/\SqT K H p xs/\L2.atI xs 2=some x/\R3 H b.2.2 x:=fun _ _ _⟨p,x,y,z,h0,h,h1,h2,h3⟩=>⟨p,_,z,h0,h,rfl,h3⟩
theorem qd{R:Rp α}{H:Hp}{as:List α}{xs:List V}(h:LR R H as xs){i:Int}{a:α}(e:sX as i=some a):∃x,L2.atI xs i=some x/\R H a x:=by
 unfold sX at e;unfold L2.atI;rw[h.1];cases z:Mi.ixN as.length i with
 |none=>rw[z]at e;cases e
 |some j=>
  rw[z]at e;obtain⟨x,h1,h2⟩:=h.get (i:=j) e;exact⟨x,by show(L2.ixN as.length i).bind _=_;rw[show L2.ixN as.length i=Mi.ixN as.length i from rfl,z];exact h1,h2⟩
theorem LR.three{R:Rp α}{H:Hp}{a b c:α}{x y z:V}(h1:R H a x)(h2:R H b y)(h3:R H c z):LR R H [a,b,c] [x,y,z]:=⟨rfl,fun i v m e1 e2=>by
 match i,e1,e2 with
 |0,e1,e2=>cases e1;cases e2;exact h1
 |1,e1,e2=>cases e1;cases e2;exact h2
 |2,e1,e2=>cases e1;cases e2;exact h3⟩
theorem bL{R:Rp α}[Mono R]{ma:Res (List α)}{mb:Res Int}(ha:EV Er ta σ W (pk R) ma)(hb:EV Er tb σ W (sh isI) mb):EV Er (gV (wC K) ta tb) σ W (sh R) (ma.bind fun a=>mb.bind fun b=>fc a b):=
 rF ha hb fun W a b x y Q hx hy k=>by
  cases hy;obtain⟨p,vs,rfl,h,h1⟩:=hx;obtain⟨c,h4,h5⟩:=eQ k;obtain⟨z,h6,h7⟩:=qd h1 h4;exact⟨p,_,b,z,rfl,rfl,Gk h,h6,h5 _ W (.refl _) h7⟩
theorem eT{R:Rp α}:EVo Er (tG bV) σ W R (.ok []):=fun W1 e1 Q k=>⟨by decide,fun p hp=>k p (W1.mut p (.lst [])<|W1.gnone hp) (.own _ hp) hp ⟨W1.gnone hp,[],aI,.nil⟩⟩
def AV(Er:Nat->Prop)(t:TA)(σ:St)(W:Wd)(R:Rp α)(n:Nat)(m:Res (List α)):Prop:=∀W1,Ext W W1->∀Q:List V->Hp->Prop,m.OkE Er (fun as=>∀vs W2,Ext W1 W2->vs.length=n->LR R W2.G as vs->Q vs W2.H)->t σ W1.H Q
theorem fY{R:Rp α}:AV Er bV σ W R 0 (.ok []):=fun W1 _ Q k=>k [] W1 (.refl _) rfl .nil
theorem LR.cons{R:Rp α}{H:Hp}{a:α}{v:V}{as:List α}{vs:List V}(h:R H a v)(r:LR R H as vs):LR R H (a::as) (v::vs):=⟨by simp[r.1],fun i x m e1 e2=>by
 cases i with
 |zero=>cases e1;cases e2;exact h
 |succ j=>exact r.2 j x m e1 e2⟩
theorem bM{R:Rp α}[Mono R]{n:Nat}{ts:TA}{m:Res α}{ms:Res (List α)}(h:EV Er t σ W (sh R) m)(g:AV Er ts σ W R n ms):AV Er (aL t ts) σ W R (n+1) (m.bind fun a=>ms.bind fun as=>.ok (a::as)):=fun W1 e1 Q k=>
 h W1 e1 _ ((DE k).imp fun a ka v W2 e2 hv=>g W2 (e1.trans e2) _ ((DE ka).imp fun as kas vs W3 e3 hn hvs=>kas (v::vs) W3 (e2.trans e3) (by simp[hn])<|.cons (DD (R:=R) e3.g hv) hvs))
theorem fZ{R:Rp α}[Mono R]{n:Nat}{ts:TA}{ms:Res (List α)}(g:AV Er ts σ W R n ms)(hn:n<=cap:=by decide):EVo Er (tG ts) σ W R ms:=fun W1 e1 Q k=>
 g W1 e1 _ (k.imp fun as ka vs W2 e2 hv hvs=>⟨by rw[hv];exact rG hn,fun p hp=>ka p (W2.mut p (.lst vs)<|W2.gnone hp) (e2.trans<|.own _ hp) (aR e2.h hp) ⟨W2.gnone hp,vs,aI,hvs⟩⟩)
theorem qe{R:Rp α}[Mono R]{ma mb:Res (List α)}(ha:EV Er ta σ W (pk R) ma)(hb:EV Er tb σ W (pk R) mb):EVo Er (gV Az ta tb) σ W R (ma.bind fun a=>mb.bind fun b=>wL a b):=fun W1 e1 Q k=>
 ha W1 e1 _ ((DE k).imp fun a ka x W2 e2 hx=>hb W2 (e1.trans e2) _ ((DE ka).imp fun b kb y W3 e3 hy=>by
  obtain⟨p,vs,rfl,h1,h2⟩:=EG e3 hx;obtain⟨q,us,rfl,h3,h4⟩:=hy;obtain⟨h5,h6⟩:=aZ kb;refine⟨p,q,vs,us,rfl,rfl,h1,h3,by rw[h2.1,h4.1];exact rG h5,fun r hr=>h6 r (W3.mut r (.lst<|vs++us)<|W3.gnone hr) ((e2.trans e3).trans (.own _ hr)) (aR (e2.trans e3).h hr) ⟨W3.gnone hr,_,aI,?_⟩⟩;exact⟨by rw[G5,G5,h2.1,h4.1],fun i v m q1 q2=>by
   by_cases hi:i<vs.length
   ·rw[Ef hi]at q1;rw[Ef (by rw[<-h2.1];exact hi)]at q2;exact h2.2 i v m q1 q2
   ·rw[Ea (by omega)]at q1;rw[Ea (by rw[<-h2.1];omega)]at q2;rw[<-h2.1]at q2;exact h4.2 _ v m q1 q2⟩))
theorem LR.cut{R:Rp α}{H:Hp}{as:List α}{vs:List V}(h:LR R H as vs)(lo hi:Option Int):LR R H (Mi.cut as lo hi) (oD vs lo hi):=by
 unfold Mi.cut oD;rw[h.1];exact(h.drop _).take _
theorem hZ{R:Rp α}[Mono R]{ma:Res (List α)}{tl th:TO}{ml mh:Res (Option Int)}(ha:EV Er ta σ W (pk R) ma)
  (hl:∀W1,Ext W W1->∀Q:Option Int->Hp->Prop,ml.OkE Er (fun o=>∀W2,Ext W1 W2->Q o W2.H)->tl σ W1.H Q) (hh:∀W1,Ext W W1->∀Q:Option Int->Hp->Prop,mh.OkE Er (fun o=>∀W2,Ext W1 W2->Q o W2.H)->th σ W1.H Q):
  EVo Er (Bx (ze K) ta tl th) σ W R (ma.bind fun a=>ml.bind fun lo=>mh.bind fun hi=>.ok<|Mi.cut a lo hi):=fun W1 e1 Q k=>
 ha W1 e1 _ ((DE k).imp fun a ka x W2 e2 hx=>hl W2 (e1.trans e2) _ ((DE ka).imp fun lo kl W3 e3=>hh W3 ((e1.trans e2).trans e3) _ ((DE kl).imp fun hi kh W4 e4=>by
  obtain⟨p,vs,rfl,h1,h2⟩:=EG (e3.trans e4) hx;have e5:=(e2.trans e3).trans e4;exact⟨p,vs,rfl,Gk h1,fun r hr=>kh r (W4.mut r (.lst (oD vs lo hi)) (W4.gnone hr)) (e5.trans (.own _ hr)) (aR e5.h hr) ⟨W4.gnone hr,_,aI,h2.cut lo hi⟩⟩)))
theorem lT{ma:Res Int}(ha:EV Er ta σ W (sh isI) ma):EV Er (mS (fun xs H Q=>∃i,xs=[.int i]/\Q (.int (if i<0 then -i else i)) H)<|aL ta bV) σ W (sh isI) (ma.bind fun a=>.ok<|cP a):=fun W1 e1 Q k=>
 ha W1 e1 _ ((DE k).imp fun a ka x W2 e2 hx=>by cases hx;exact⟨a,rfl,ka _ W2 e2 rfl⟩)
theorem cu{R:Rp α}{ma:Res (List α)}(ha:EV Er ta σ W (pk R) ma):EV Er (mS (fun xs H Q=>∃x n,xs=[x]/\oB K x H n/\Q (.int n) H)<|aL ta bV) σ W (sh isI) (ma.bind fun a=>.ok (a.length:Int)):=fun W1 e1 Q k=>
 ha W1 e1 _ ((DE k).imp fun a ka x W2 e2 hx=>by
  obtain⟨p,vs,rfl,h1,h2⟩:=hx;exact⟨_,a.length,rfl,.inl ⟨vs,Gk h1,h2.1.symm⟩,ka _ W2 e2 rfl⟩)
theorem wN{ma:Res Tx}(ha:EV Er ta σ W (sh isS) ma):EV Er (mS (fun xs H Q=>∃x n,xs=[x]/\oB K x H n/\Q (.int n) H)<|aL ta bV) σ W (sh isI) (ma.bind fun a=>zr a):=fun W1 e1 Q k=>
 ha W1 e1 _ ((DE k).imp fun a ka x W2 e2 hx=>by
  cases hx;obtain⟨h1,h2⟩:=aZ ka;exact⟨_,a.length,rfl,⟨by rw[cG];exact rG h1,by rw[cG]⟩,h2 _ W2 e2 rfl⟩)
theorem lU{ma:Res (List Tx)}{x:Str}(hx:x=sOf [])(ha:EV Er ta σ W (pk isS) ma):EV Er (wH K "str" (fun x xs H Q=>∃(p:Addr)(ys:List (List Nat)),x=.str (sOf [])/\xs=[.ref p]/\SqL K H p (ys.map fun y=>JR<|sOf y)/\ys.flatten.length<=100000/\Q (.str<|sOf ys.flatten) H) (tC<|.str x)<|aL ta bV) σ W (sh isS) (ma.bind fun a=>nc a):=fun W1 e1 Q k=>
 ⟨by show Cr K "str" (.str x) W1.H;rfl,ha W1 e1 _ ((DE k).imp fun a ka v W2 e2 hv=>by
  obtain⟨p,vs,rfl,h1,h2⟩:=hv;obtain⟨h3,h4⟩:=aZ ka;exact⟨p,a,by rw[hx],rfl,Gk (by rw[h1,h2.str]),h3,h4 _ W2 e2 rfl⟩)⟩
end
end Wb
open Wb.Same renaming tup->Fm
namespace Wb
open PySem L2 Mi
variable{Er:Nat->Prop}
abbrev Rt(β:Type):=Wd->β->VK->Prop
def rs{β:Type}(R:Rp β):Rt β:=fun W r Q=>∀u W',Ext W W'->R W'.G r u->Q u W'.H
def ro{β:Type}(R:Rp β):Rt (List β):=fun W r Q=>∀p W',Ext W W'->W.H p=none->Ow R W' p r->Q (.ref p) W'.H
section
variable{α β γ δ ε ζ:Type}
def cY(R1:Rp α)(rt:Rt β)(m:α->Res β):Sp:=fun vs H Q _=>∃(W:Wd)(a:α)(v:V),W.H=H/\vs=[v]/\R1 W.G a v/\∃Er:Nat->Prop,(m a).OkE Er fun r=>rt W r Q
def bz(R1:Rp α)(R2:Rp γ)(rt:Rt β)(m:α->γ->Res β):Sp:=fun vs H Q _=>∃(W:Wd)(a:α)(b:γ)(v u:V),W.H=H/\vs=[v,u]/\R1 W.G a v/\R2 W.G b u/\∃Er:Nat->Prop,(m a b).OkE Er fun r=>rt W r Q
def cI(R1:Rp α)(R2:Rp γ)(R3:Rp δ)(rt:Rt β)(m:α->γ->δ->Res β):Sp:=fun vs H Q _=>∃(W:Wd)(a:α)(b:γ)(c:δ)(v u w:V),W.H=H/\vs=[v,u,w]/\R1 W.G a v/\R2 W.G b u/\R3 W.G c w/\∃Er:Nat->Prop,(m a b c).OkE Er fun r=>rt W r Q
def gE(R1:Rp α)(R2:Rp γ)(R3:Rp δ)(R4:Rp ε)(rt:Rt β)(m:α->γ->δ->ε->Res β):Sp:=fun vs H Q _=>∃(W:Wd)(a:α)(b:γ)(c:δ)(d:ε)(v u w x:V),W.H=H/\vs=[v,u,w,x]/\R1 W.G a v/\R2 W.G b u/\R3 W.G c w/\R4 W.G d x/\∃Er:Nat->Prop,(m a b c d).OkE Er fun r=>rt W r Q
def eK(R1:Rp α)(R2:Rp γ)(R3:Rp δ)(R4:Rp ε)(R5:Rp ζ)(rt:Rt β)(m:α->γ->δ->ε->ζ->Res β):Sp:=fun vs H Q _=>∃(W:Wd)(a:α)(b:γ)(c:δ)(d:ε)(e:ζ)(v u w x y:V),W.H=H/\vs=[v,u,w,x,y]/\R1 W.G a v/\R2 W.G b u/\R3 W.G c w/\R4 W.G d x/\R5 W.G e y/\∃Er:Nat->Prop,(m a b c d e).OkE Er fun r=>rt W r Q
variable{t t1 t2 t3 t4 t5:TE}{σ:St}{W W0 W':Wd}{K:DJ}
section
variable{R1:Rp α}{R2:Rp γ}{R3:Rp δ}{R4:Rp ε}{R5:Rp ζ}[Mono R1][Mono R2][Mono R3][Mono R4][Mono R5]{m1:Res α}{m2:Res γ}{m3:Res δ}{m4:Res ε}{m5:Res ζ}{E:XK}
theorem cw{R:Rp β}{m:α->Res β}(h1:EV Er t1 σ W (sh R1) m1):EV Er (fJ (cY R1 (rs R) m) [] E<|aL t1 bV) σ W (sh R) (m1.bind fun a=>m a):=fun W1 e1 Q k=>
 h1 W1 e1 _ ((DE k).imp fun a ka v W2 e2 hv=>⟨W2,a,v,rfl,rfl,hv,Er,ka.imp fun r kr u W' e hu=>kr u W' (e2.trans e) hu⟩)
theorem aQ{R:Rp β}{m:α->γ->Res β}(h1:EV Er t1 σ W (sh R1) m1)(h2:EV Er t2 σ W (sh R2) m2):EV Er (fJ (bz R1 R2 (rs R) m) [] E<|aL t1<|aL t2 bV) σ W (sh R) (m1.bind fun a=>m2.bind fun b=>m a b):=fun W1 e1 Q k=>
 h1 W1 e1 _ ((DE k).imp fun a ka v W2 e2 hv=>h2 W2 (e1.trans e2) _<|(DE ka).imp fun b kb u W3 e3 hu=>⟨W3,a,b,v,u,rfl,rfl,EG (R:=sh R1) e3 hv,hu,Er,kb.imp fun r kr u W' e hu=>kr u W' ((e2.trans e3).trans e) hu⟩)
theorem gu{R:Rp β}{m:α->γ->Res (List β)}(h1:EV Er t1 σ W (sh R1) m1)(h2:EV Er t2 σ W (sh R2) m2):EVo Er (fJ (bz R1 R2 (ro R) m) [] E<|aL t1<|aL t2 bV) σ W R (m1.bind fun a=>m2.bind fun b=>m a b):=fun W1 e1 Q k=>
 h1 W1 e1 _ ((DE k).imp fun a ka v W2 e2 hv=>h2 W2 (e1.trans e2) _<|(DE ka).imp fun b kb u W3 e3 hu=>⟨W3,a,b,v,u,rfl,rfl,EG (R:=sh R1) e3 hv,hu,Er,kb.imp fun r kr p W' e hp o=>kr p W' ((e2.trans e3).trans e) (aR (e2.trans e3).h hp) o⟩)
theorem dw{R:Rp β}{m:α->γ->δ->Res β}(h1:EV Er t1 σ W (sh R1) m1)(h2:EV Er t2 σ W (sh R2) m2)(h3:EV Er t3 σ W (sh R3) m3):EV Er (fJ (cI R1 R2 R3 (rs R) m) [] E<|aL t1<|aL t2<|aL t3 bV) σ W (sh R) (m1.bind fun a=>m2.bind fun b=>m3.bind fun c=>m a b c):=fun W1 e1 Q k=>
 h1 W1 e1 _ ((DE k).imp fun a ka v W2 e2 hv=>h2 W2 (e1.trans e2) _ ((DE ka).imp fun b kb u W3 e3 hu=>h3 W3 ((e1.trans e2).trans e3) _ ((DE kb).imp fun c kc w W4 e4 hw=>
  ⟨W4,a,b,c,v,u,w,rfl,rfl,EG (R:=sh R1) (e3.trans e4) hv,EG (R:=sh R2) e4 hu,hw,Er,kc.imp fun r kr u W' e hu=>kr u W' (((e2.trans e3).trans e4).trans e) hu⟩)))
theorem dO{R:Rp β}{m:α->γ->δ->Res (List β)}(h1:EV Er t1 σ W (sh R1) m1)(h2:EV Er t2 σ W (sh R2) m2)(h3:EV Er t3 σ W (sh R3) m3):EVo Er (fJ (cI R1 R2 R3 (ro R) m) [] E<|aL t1<|aL t2<|aL t3 bV) σ W R (m1.bind fun a=>m2.bind fun b=>m3.bind fun c=>m a b c):=fun W1 e1 Q k=>
 h1 W1 e1 _ ((DE k).imp fun a ka v W2 e2 hv=>h2 W2 (e1.trans e2) _ ((DE ka).imp fun b kb u W3 e3 hu=>h3 W3 ((e1.trans e2).trans e3) _ ((DE kb).imp fun c kc w W4 e4 hw=>
  ⟨W4,a,b,c,v,u,w,rfl,rfl,EG (R:=sh R1) (e3.trans e4) hv,EG (R:=sh R2) e4 hu,hw,Er,kc.imp fun r kr p W' e hp o=>kr p W' (((e2.trans e3).trans e4).trans e) (aR ((e2.trans e3).trans e4).h hp) o⟩)))
theorem jM{R:Rp β}{m:α->γ->δ->ε->Res β}(h1:EV Er t1 σ W (sh R1) m1)(h2:EV Er t2 σ W (sh R2) m2)(h3:EV Er t3 σ W (sh R3) m3)(h4:EV Er t4 σ W (sh R4) m4):EV Er (fJ (gE R1 R2 R3 R4 (rs R) m) [] E<|aL t1<|aL t2<|aL t3<|aL t4 bV) σ W (sh R) (m1.bind fun a=>m2.bind fun b=>m3.bind fun c=>m4.bind fun d=>m a b c d):=fun W1 e1 Q k=>
 h1 W1 e1 _ ((DE k).imp fun a ka v W2 e2 hv=>h2 W2 (e1.trans e2) _ ((DE ka).imp fun b kb u W3 e3 hu=>h3 W3 ((e1.trans e2).trans e3) _ ((DE kb).imp fun c kc w W4 e4 hw=>h4 W4 (((e1.trans e2).trans e3).trans e4) _ ((DE kc).imp fun d kd x W5 e5 hx=>
  ⟨W5,a,b,c,d,v,u,w,x,rfl,rfl,EG (R:=sh R1) ((e3.trans e4).trans e5) hv,EG (R:=sh R2) (e4.trans e5) hu,EG (R:=sh R3) e5 hw,hx,Er,kd.imp fun r kr u W' e hu=>kr u W' ((((e2.trans e3).trans e4).trans e5).trans e) hu⟩))))
theorem dP{R:Rp β}{m:α->γ->δ->ε->Res (List β)}(h1:EV Er t1 σ W (sh R1) m1)(h2:EV Er t2 σ W (sh R2) m2)(h3:EV Er t3 σ W (sh R3) m3)(h4:EV Er t4 σ W (sh R4) m4):EVo Er (fJ (gE R1 R2 R3 R4 (ro R) m) [] E<|aL t1<|aL t2<|aL t3<|aL t4 bV) σ W R (m1.bind fun a=>m2.bind fun b=>m3.bind fun c=>m4.bind fun d=>m a b c d):=fun W1 e1 Q k=>
 h1 W1 e1 _ ((DE k).imp fun a ka v W2 e2 hv=>h2 W2 (e1.trans e2) _ ((DE ka).imp fun b kb u W3 e3 hu=>h3 W3 ((e1.trans e2).trans e3) _ ((DE kb).imp fun c kc w W4 e4 hw=>h4 W4 (((e1.trans e2).trans e3).trans e4) _ ((DE kc).imp fun d kd x W5 e5 hx=>
  ⟨W5,a,b,c,d,v,u,w,x,rfl,rfl,EG (R:=sh R1) ((e3.trans e4).trans e5) hv,EG (R:=sh R2) (e4.trans e5) hu,EG (R:=sh R3) e5 hw,hx,Er,kd.imp fun r kr p W' e hp o=>kr p W' ((((e2.trans e3).trans e4).trans e5).trans e) (aR (((e2.trans e3).trans e4).trans e5).h hp) o⟩))))
theorem i4{R:Rp β}{m:α->γ->δ->ε->ζ->Res β}(h1:EV Er t1 σ W (sh R1) m1)(h2:EV Er t2 σ W (sh R2) m2)(h3:EV Er t3 σ W (sh R3) m3)(h4:EV Er t4 σ W (sh R4) m4)(h5:EV Er t5 σ W (sh R5) m5):EV Er (fJ (eK R1 R2 R3 R4 R5 (rs R) m) [] E<|aL t1<|aL t2<|aL t3<|aL t4<|aL t5 bV) σ W (sh R) (m1.bind fun a=>m2.bind fun b=>m3.bind fun c=>m4.bind fun d=>m5.bind fun e=>m a b c d e):=fun W1 e1 Q k=>
 h1 W1 e1 _ ((DE k).imp fun a ka v W2 e2 hv=>h2 W2 (e1.trans e2) _ ((DE ka).imp fun b kb u W3 e3 hu=>h3 W3 ((e1.trans e2).trans e3) _ ((DE kb).imp fun c kc w W4 e4 hw=>h4 W4 (((e1.trans e2).trans e3).trans e4) _ ((DE kc).imp fun d kd x W5 e5 hx=>h5 W5 ((((e1.trans e2).trans e3).trans e4).trans e5) _ ((DE kd).imp fun e ke y W6 e6 hy=>
  ⟨W6,a,b,c,d,e,v,u,w,x,y,rfl,rfl,EG (R:=sh R1) (((e3.trans e4).trans e5).trans e6) hv,EG (R:=sh R2) ((e4.trans e5).trans e6) hu,EG (R:=sh R3) (e5.trans e6) hw,EG (R:=sh R4) e6 hx,hy,Er,ke.imp fun r kr u W' e hu=>kr u W' (((((e2.trans e3).trans e4).trans e5).trans e6).trans e) hu⟩)))))
theorem fk{R:Rp β}{m:α->γ->δ->ε->ζ->Res (List β)}(h1:EV Er t1 σ W (sh R1) m1)(h2:EV Er t2 σ W (sh R2) m2)(h3:EV Er t3 σ W (sh R3) m3)(h4:EV Er t4 σ W (sh R4) m4)(h5:EV Er t5 σ W (sh R5) m5):EVo Er (fJ (eK R1 R2 R3 R4 R5 (ro R) m) [] E<|aL t1<|aL t2<|aL t3<|aL t4<|aL t5 bV) σ W R (m1.bind fun a=>m2.bind fun b=>m3.bind fun c=>m4.bind fun d=>m5.bind fun e=>m a b c d e):=fun W1 e1 Q k=>
 h1 W1 e1 _ ((DE k).imp fun a ka v W2 e2 hv=>h2 W2 (e1.trans e2) _ ((DE ka).imp fun b kb u W3 e3 hu=>h3 W3 ((e1.trans e2).trans e3) _ ((DE kb).imp fun c kc w W4 e4 hw=>h4 W4 (((e1.trans e2).trans e3).trans e4) _ ((DE kc).imp fun d kd x W5 e5 hx=>h5 W5 ((((e1.trans e2).trans e3).trans e4).trans e5) _ ((DE kd).imp fun e ke y W6 e6 hy=>
  ⟨W6,a,b,c,d,e,v,u,w,x,y,rfl,rfl,EG (R:=sh R1) (((e3.trans e4).trans e5).trans e6) hv,EG (R:=sh R2) ((e4.trans e5).trans e6) hu,EG (R:=sh R3) (e5.trans e6) hw,EG (R:=sh R4) e6 hx,hy,Er,ke.imp fun r kr p W' e hp o=>kr p W' (((((e2.trans e3).trans e4).trans e5).trans e6).trans e) (aR ((((e2.trans e3).trans e4).trans e5).trans e6).h hp) o⟩)))))
end
def Yl(J:It)(W:Wd)(R:Rp α)(xs:List α):Prop:=∀W1:Wd,Same W.G W1.G->(∀(i:Nat)(a:α),xs[i]? =some a->J.go i W1.H/\∀x H',J.yld i W1.H x H'->∃W2:Wd,W2.H=H'/\Ext W1 W2/\R W2.G a x)/\J.stop xs.length W1.H
def IV(Er:Nat->Prop)(wi:TI)(σ:St)(W:Wd)(R:Rp α)(m:Res (List α)):Prop:=∀W1,Ext W W1->∀P:It->Hp->Prop,m.OkE Er (fun xs=>∀J W2,Ext W1 W2->Yl J W2 R xs->P J W2.H)->wi σ W1.H P
theorem bN{R:Rp α}[Mono R]{m:Res (List α)}(h:EV Er t σ W (sh<|isL R) m):IV Er (tu K t) σ W R m:=fun W1 e1 P k=>
 h W1 e1 _ (k.imp fun xs kx v W2 e2 hv=>by
  obtain⟨p,vs,rfl,h1,h2⟩:=hv;refine⟨p,rfl,⟨vs,Gk (W2.ok _ _ h1)⟩,kx _ W2 e2 fun W3 e3=>⟨fun i a ha=>?_,vs,Gk (W3.ok _ _ (e3 _ _ h1)),by rw[h2.1];exact DQ _⟩⟩;obtain⟨x,hx,hr⟩:=h2.get ha;refine⟨⟨vs,x,Gk (W3.ok _ _ (e3 _ _ h1)),hx⟩,fun y H'⟨z1,z2⟩=>⟨W3,z1.symm,.refl _,?_⟩⟩;have:=z2 vs (Gk (W3.ok _ _ (e3 _ _ h1)));rw[hx]at this;cases this;exact DD e3 hr)
theorem iQ{m:Res Tx}(h:EV Er t σ W (sh isS) m):IV Er (AB t) σ W isS (m.bind fun x=>.ok<|bq x):=fun W1 e1 P k=>
 h W1 e1 _ ((DE k).imp fun x kx v W2 e2 hv=>by
  cases hv;refine⟨x,rfl,kx _ W2 e2 fun W3 e3=>⟨fun i a ha=>?_,by show x.length<=(bq x).length;simp[bq]⟩⟩;unfold bq at ha;rw[DU]at ha;cases hc:x[i]? with
  |none=>rw[hc]at ha;cases ha
  |some c=>
   rw[hc]at ha;cases ha;refine⟨(DR.mp hc).1,fun y H'⟨z1,c',z2,z3⟩=>⟨W3,z1.symm,.refl _,?_⟩⟩;rw[hc]at z2;cases z2;exact z3)
theorem jN{m:Res Int}(h:EV Er t σ W (sh isI) m):IV Er (yp<|aL t bV) σ W isI (m.bind fun n=>fX n):=fun W1 e1 P k=>
 h W1 e1 _ ((DE k).imp fun n kn v W2 e2 hv=>by
  cases hv;obtain⟨hb,kn⟩:=aZ kn;refine⟨n,rfl,hb.1,hb.2,kn _ W2 e2 fun W3 e3=>⟨fun i a ha=>?_,by show n.toNat<=(fe n).length;simp[fe]⟩⟩;unfold fe at ha;rw[DU]at ha;have hi:i<n.toNat:=by
   refine Jj fun z=>?_;rw[Fn.mpr (by simp;omega)]at ha;cases ha
  rw[Gm hi]at ha;cases ha;exact⟨hi,fun y H'⟨z1,z2⟩=>⟨W3,z1.symm,.refl _,by rw[z2];show Hr (0+(i:Int))=.int (i:Int);rw[Int.zero_add]⟩⟩)
def SrcR(K:DJ)(W:Wd)(R:Rp α)(xs:List α)(v:V):Prop:=∃(c:Src)(vs:List V),v=c.val/\(∀W1:Wd,Same W.G W1.G->c.has K W1.H vs)/\LR R W.G xs vs
theorem SrcR.mono{R:Rp α}[Mono R]{xs:List α}{v:V}(h:SrcR K W R xs v)(e:Same W.G W'.G):SrcR K W' R xs v:=by
 obtain⟨c,vs,h1,h2,h3⟩:=h;exact⟨c,vs,h1,fun W1 e1=>h2 W1<|e.trans e1,h3.same e⟩
def SV(Er:Nat->Prop)(t:TE)(σ:St)(W:Wd)(K:DJ)(R:Rp α)(m:Res (List α)):Prop:=EV Er t σ W (fun W xs v=>SrcR K W R xs v) m
theorem dh{R:Rp α}[Mono R]{m:Res (List α)}(h:EV Er t σ W (sh<|isL R) m):SV Er t σ W K R m:=h.imp fun W xs v⟨p,vs,h0,h1,h2⟩=>⟨.lst p,vs,h0,fun W1 e1=>Gk<|W1.ok _ _<|e1 _ _ h1,h2⟩
theorem ud{H:Hp}(x:Tx):LR isS H (bq x) (x.map fun c=>JR<|sOf [c]):=⟨by simp[bq],fun i v m e1 e2=>by
 unfold bq at e2;rw[DU]at e1 e2;cases hc:x[i]? with
 |none=>rw[hc]at e1;cases e1
 |some c=>rw[hc]at e1 e2;cases e1;cases e2;rfl⟩
theorem zw{m:Res Tx}(h:EV Er t σ W (sh isS) m):SV Er t σ W K isS (m.bind fun x=>.ok<|bq x):=fun W1 e1 Q k=>
 h W1 e1 _ ((DE k).imp fun x kx v W2 e2 hv=>by cases hv;exact kx _ W2 e2 ⟨.str x,_,rfl,fun _ _=>rfl,ud x⟩)
theorem gv{R:Rp α}{m:Res (α×α×α)}(h:EV Er t σ W (sh<|isT3 K R R R) m):SV Er t σ W K R (m.bind fun x=>.ok [x.1,x.2.1,x.2.2]):=fun W1 e1 Q k=>
 h W1 e1 _ ((DE k).imp fun x kx v W2 e2 hv=>by
  obtain⟨p,a,b,c,h0,h,h1,h2,h3⟩:=hv;exact kx _ W2 e2 ⟨.tup p,_,h0,fun W3 e3=>Fm (e3.trans W3.ok) h,LR.three h1 h2 h3⟩)
theorem gR{R1:Rp α}{R2:Rp β}[Mono R1][Mono R2]{m1:Res (List α)}{m2:Res (List β)}(h1:SV Er t1 σ W K R1 m1)(h2:SV Er t2 σ W K R2 m2):IV Er (zk K<|aL t1<|aL t2 bV) σ W (isT2 K R1 R2) (m1.bind fun xs=>m2.bind fun ys=>.ok<|xs.zip ys):=fun W1 e1 P k=>
 h1 W1 e1 _ ((DE k).imp fun xs kx v W2 e2 hv=>h2 W2 (e1.trans e2) _ ((DE kx).imp fun ys ky u W3 e3 hu=>by
  obtain⟨c1,vs,rfl,a1,b1⟩:=SrcR.mono hv e3.g;obtain⟨c2,us,rfl,a2,b2⟩:=hu;refine⟨c1,c2,vs,us,rfl,a1 W3<|.refl _,a2 W3<|.refl _,ky _ W3 (e2.trans e3) fun W4 e4=>⟨fun i ab hab=>?_,?_⟩⟩
  ·rw[FE]at hab;obtain⟨x,hx,rx⟩:=b1.get hab.1;obtain⟨y,hy,ry⟩:=b2.get hab.2;refine⟨⟨vs,us,x,y,a1 W4 e4,a2 W4 e4,hx,hy⟩,fun z H'⟨p,x',y',hp,z0,z1,z2,z3⟩=>⟨W4.new p<|.tup [x',y'],by rw[z3];rfl,.new _ hp,p,x',y',z0,Mg aI,?_,?_⟩⟩
   ·have:=z1 vs<|a1 W4 e4;rw[hx]at this;cases this;exact DD (e4.trans (HI _ hp).g) rx
   ·have:=z2 us<|a2 W4 e4;rw[hy]at this;cases this;exact DD (e4.trans (HI _ hp).g) ry
  ·refine⟨vs,us,a1 W4 e4,a2 W4 e4,?_⟩;rw[G2,b1.1,b2.1];omega))
theorem ue{xs:List α}{i:Nat}{p:Int×α}(h:(gJ xs)[i]? =some p):p.1=(i:Int)/\xs[i]? =some p.2:=by
 unfold gJ at h;rw[Kd]at h;cases h1:(F2 xs.length)[i]? with
 |none=>rw[h1]at h;cases h
 |some j=>
  cases h2:xs[i]? with
  |none=>rw[h1,h2]at h;cases h
  |some x=>
   rw[h1,h2]at h;cases h;have hi:=(DR.mp h2).1;rw[Gm hi]at h1;cases h1;exact⟨rfl,rfl⟩
theorem uf{xs:List α}:(gJ xs).length=xs.length:=by simp[gJ]
theorem wO{R:Rp α}[Mono R]{m:Res (List α)}(h:EV Er t σ W (sh<|isL R) m):IV Er (yt K<|aL t bV) σ W (isT2 K isI R) (m.bind fun xs=>.ok<|gJ xs):=fun W1 e1 P k=>
 h W1 e1 _ ((DE k).imp fun xs kx v W2 e2 hv=>by
  obtain⟨p,vs,rfl,h1,h2⟩:=hv;refine⟨p,vs,rfl,Gk (W2.ok _ _ h1),kx _ W2 e2 fun W3 e3=>⟨fun i ab hab=>?_,vs,Gk (W3.ok _ _ (e3 _ _ h1)),by rw[uf,h2.1]⟩⟩;obtain⟨hi,ha⟩:=ue hab;obtain⟨x,hx,rx⟩:=h2.get ha;refine⟨⟨vs,x,Gk (W3.ok _ _ (e3 _ _ h1)),hx⟩,fun z H'⟨q,x',hq,z0,z1,z2⟩=>⟨W3.new q (.tup [.int i,x']),by rw[z2];rfl,.new _ hq,q,_,x',z0,Mg aI,by rw[hi];rfl,?_⟩⟩;have:=z1 vs (Gk (W3.ok _ _ (e3 _ _ h1)));rw[hx]at this;cases this;exact DD (e3.trans (HI _ hq).g) rx)
theorem rH{f:α->Res β}{xs:List α}{i:Nat}{a:α}(h:xs[i]? =some a):je f (xs.drop i)=(f a).bind fun b=>(je f<|xs.drop<|i+1).bind fun bs=>.ok (b::bs):=by
 obtain⟨hi,e⟩:=DR.mp h;rw[FF hi,e];rfl
theorem oP{f:α->Res (Option β)}{xs:List α}{i:Nat}{a:α}(h:xs[i]? =some a):hW f (xs.drop i)=(f a).bind fun b=>(hW f<|xs.drop<|i+1).bind fun bs=>.ok (match b with|some b=>b::bs|none=>bs):=by
 obtain⟨hi,e⟩:=DR.mp h;rw[FF hi,e];rfl
theorem dH{cap:List (Option Nat)}{wi:TI}{g:TG}{te:TE}{R:Rp α}{R':Rp β}[Mono R']{m:Res (List α)}{f:α->Res β}(hi:IV Er wi σ W R m)
  (hb:∀(W1:Wd)(a:α)(v:V),Ext W W1->R W1.G a v->∀Q:VK,(f a).OkE Er (fun b=>∀u W2,Ext W1 W2->R' W2.G b u->Q u W2.H)->g v (bh cap σ) W1.H fun σ2 H2=>Keep (bh cap σ) σ2/\te σ2 H2 Q):
  EVo Er (pX cap wi g zj te) σ W R' (m.bind fun xs=>dv xs f):=fun W1 e1 Q k=>by
 refine hi W1 e1 _<|(DE k).imp fun xs kx J W2 e2 hy=>?_;obtain⟨hl,kx⟩:=aZ<|DE kx;refine⟨fun i n ys H=>n=xs.length-i/\i<=xs.length/\ys.length<=i/\∃(W3:Wd)(bs:List β),W3.H=H/\Ext W2 W3/\LR R' W3.G bs ys/\(je f<|xs.drop i).OkE Er (fun r=>∀p W4,Ext W1 W4->W1.H p=none->Ow R' W4 p (bs++r)->Q (.ref p) W4.H),⟨xs.length,by simp,by simp,by simp,W2,[],rfl,.refl _,.nil,?_⟩,?_⟩;·simpa using kx
 ·rintro i n ys H ⟨rfl,hi1,hyl,W3,bs,rfl,e3,lr,q⟩;refine⟨by rw[F3];unfold Mi.cap at hl;omega,?_⟩;by_cases hlt:i<xs.length
  ·obtain⟨a,ha⟩:∃a,xs[i]? =some a:=⟨xs[i],by simp[hlt]⟩
   obtain⟨h1,h2⟩:=(hy W3 e3.g).1 i a ha;refine .inr ⟨h1,fun ys' H'=>ys'.length<=i+1/\∃(W3:Wd)(bs:List β),W3.H=H'/\Ext W2 W3/\LR R' W3.G bs ys'/\(je f<|xs.drop<|i+1).OkE Er (fun r=>∀p W4,Ext W1 W4->W1.H p=none->Ow R' W4 p (bs++r)->Q (.ref p) W4.H),fun ys' H'⟨z1,z2⟩=>⟨xs.length-(i+1),by omega,rfl,hlt,z1,z2⟩,fun x H' hx=>?_⟩;obtain⟨W4,rfl,e4,rx⟩:=h2 x H' hx;rw[rH ha]at q;have:=hb W4 a x (e1.trans<|(e2.trans e3).trans e4) rx (fun y H4=>(ys++[y]).length<=i+1/\∃(W3:Wd)(bs:List β),W3.H=H4/\Ext W2 W3/\LR R' W3.G bs (ys++[y])/\(je f<|xs.drop<|i+1).OkE Er (fun r=>∀p W4,Ext W1 W4->W1.H p=none->Ow R' W4 p (bs++r)->Q (.ref p) W4.H))
    ((DE q).imp fun b kb u W5 e5 hu=>⟨by simp;exact hyl,W5,bs++[b],rfl,(e3.trans e4).trans e5,(lr.same (e4.trans e5).g).snoc hu,(DE kb).imp fun r kr=>by rw[Eb];exact kr⟩)
   exact this
  ·have e:i=xs.length:=by omega
   subst e;rw[GS]at q;refine .inl ⟨(hy W3 e3.g).2,fun D hD=>?_⟩;have e13:=e2.trans e3;have:=q D (W3.mut D (.lst ys)<|W3.gnone hD) (e13.trans<|.own _ hD) (aR e13.h hD) ⟨W3.gnone hD,ys,aI,by rw[Gi];exact lr⟩;exact this
theorem ug{cap:List (Option Nat)}{wi:TI}{g:TG}{tf:TT}{te:TE}{R:Rp α}{R':Rp β}[Mono R']{m:Res (List α)}{f:α->Res (Option β)}(hi:IV Er wi σ W R m)
    (hb:∀(W1:Wd)(a:α)(v:V),Ext W W1->R W1.G a v->∀Q:Option V->Hp->Prop,(f a).OkE Er (fun b=>∀u W2,Ext W1 W2->(match b,u with|some b,some u=>R' W2.G b u|none,none=>True|_,_=>False)->Q u W2.H)->g v (bh cap σ) W1.H fun σ2 H2=>Keep (bh cap σ) σ2/\tf σ2 H2 fun b H3=>if b=true then te σ2 H3 (fun y H4=>Q (some y) H4)else Q none H3):
    EVo Er (pX cap wi g tf te) σ W R' (m.bind fun xs=>q9 xs f):=fun W1 e1 Q k=>by
  refine hi W1 e1 _<|(DE k).imp fun xs kx J W2 e2 hy=>?_;obtain⟨hl,kx⟩:=aZ<|DE kx;refine⟨fun i n ys H=>n=xs.length-i/\i<=xs.length/\ys.length<=i/\∃(W3:Wd)(bs:List β),W3.H=H/\Ext W2 W3/\LR R' W3.G bs ys/\(hW f<|xs.drop i).OkE Er (fun r=>∀p W4,Ext W1 W4->W1.H p=none->Ow R' W4 p (bs++r)->Q (.ref p) W4.H),⟨xs.length,by simp,by simp,by simp,W2,[],rfl,.refl _,.nil,?_⟩,?_⟩;·simpa using kx
  · rintro i n ys H ⟨rfl,hi1,hyl,W3,bs,rfl,e3,lr,q⟩;refine⟨by rw[F3];unfold Mi.cap at hl;omega,?_⟩;by_cases hlt:i<xs.length
    · obtain⟨a,ha⟩:∃a,xs[i]? =some a:=⟨xs[i],by simp[hlt]⟩
      obtain⟨h1,h2⟩:=(hy W3 e3.g).1 i a ha;refine .inr ⟨h1,fun ys' H'=>ys'.length<=i+1/\∃(W3:Wd)(bs:List β),W3.H=H'/\Ext W2 W3/\LR R' W3.G bs ys'/\(hW f<|xs.drop<|i+1).OkE Er (fun r=>∀p W4,Ext W1 W4->W1.H p=none->Ow R' W4 p (bs++r)->Q (.ref p) W4.H),fun ys' H'⟨z1,z2⟩=>⟨xs.length-(i+1),by omega,rfl,hlt,z1,z2⟩,fun x H' hx=>?_⟩;obtain⟨W4,rfl,e4,rx⟩:=h2 x H' hx;rw[oP ha]at q
      have:=hb W4 a x (e1.trans<|(e2.trans e3).trans e4) rx (fun y H4=>(match y with|some y=>ys++[y]|none=>ys).length<=i+1/\∃(W3:Wd)(bs:List β),W3.H=H4/\Ext W2 W3/\LR R' W3.G bs (match y with|some y=>ys++[y]|none=>ys)/\(hW f<|xs.drop<|i+1).OkE Er (fun r=>∀p W4,Ext W1 W4->W1.H p=none->Ow R' W4 p (bs++r)->Q (.ref p) W4.H))
        ((DE q).imp fun b kb u W5 e5 hu=>by
          match b,u,hu,kb with
          |some b,some u,hu,kb=>exact⟨by simp;exact hyl,W5,bs++[b],rfl,(e3.trans e4).trans e5,(lr.same (e4.trans e5).g).snoc hu,(DE kb).imp fun r kr=>by rw[Eb];exact kr⟩
          |none,none,hu,kb=>exact⟨by show ys.length<=i+1;omega,W5,bs,rfl,(e3.trans e4).trans e5,lr.same (e4.trans e5).g,(DE kb).imp fun r kr=>kr⟩)
      exact this
    · have e:i=xs.length:=by omega
      subst e;rw[GS]at q;refine .inl ⟨(hy W3 e3.g).2,fun D hD=>?_⟩;have e13:=e2.trans e3;have:=q D (W3.mut D (.lst ys)<|W3.gnone hD) (e13.trans<|.own _ hD) (aR e13.h hD) ⟨W3.gnone hD,ys,aI,by rw[Gi];exact lr⟩;exact this
end
end Wb
open Wb.SrcR renaming mono->NQ
namespace Wb
open PySem L2 Mi
variable{Er:Nat->Prop}
section
variable{α β γ δ:Type}{t u:TS}{te ti:TE}{g:TG}{D:Ends}{σ:St}{W W0 W':Wd}{K:DJ}{i j k n:Nat}{P:St->Hp->Prop}{H:Hp}{v:V}
theorem gn{σ':St}(h:P σ' H)(hσ:σ.set i (some v)=σ':=by rfl):d5 i v σ H P:=by subst hσ;exact h
theorem i5{σ':V->V->St}{R1:Rp α}{R2:Rp β}{ab:α×β}(h:isT2 K R1 R2 W.G ab v)(q:∀x y,R1 W.G ab.1 x->R2 W.G ab.2 y->P (σ' x y) W.H)(hσ:∀x y,(σ.set i<|some x).set j (some y)=σ' x y:=by intro _ _;rfl):wt K 2 (kR (d5 i)<|kR (d5 j) yR) v σ W.H P:=by
 obtain⟨p,x,y,h0,h,h1,h2⟩:=h;exact⟨p,_,h0,Fm W.ok h,rfl,x,_,rfl,y,_,rfl,rfl,by have:=q x y h1 h2;rw[<-hσ]at this;exact this⟩
theorem oQ{σ':V->V->V->St}{R1:Rp α}{R2:Rp β}{R3:Rp γ}{ab:α×β×γ}(h:isT3 K R1 R2 R3 W.G ab v)(q:∀x y z,R1 W.G ab.1 x->R2 W.G ab.2.1 y->R3 W.G ab.2.2 z->P (σ' x y z) W.H)(hσ:∀x y z,((σ.set i<|some x).set j (some y)).set k (some z)=σ' x y z:=by intro _ _ _;rfl):wt K 3 (kR (d5 i)<|kR (d5 j)<|kR (d5 k) yR) v σ W.H P:=by
 obtain⟨p,x,y,z,h0,h,h1,h2,h3⟩:=h;exact⟨p,_,h0,Fm W.ok h,rfl,x,_,rfl,y,_,rfl,z,_,rfl,rfl,by have:=q x y z h1 h2 h3;rw[<-hσ]at this;exact this⟩
theorem cC{σ':V->St}{R:Rw α}{m:Res α}(h:EV Er te σ W R m)(q:m.OkE Er fun a=>∀v W',Ext W W'->R W' a v->D.nx (σ' v) W'.H)(hσ:∀v,σ.set i (some v)=σ' v:=by intro _;rfl):iG te (d5 i) D σ W.H:=h W (.refl _) _ (q.imp fun a k v W' e r=>by have:=k v W' e r;rw[<-hσ]at this;exact this)
theorem wQ{σ':Addr->St}{R:Rp α}{m:Res (List α)}(h:EVo Er te σ W R m)(q:m.OkE Er fun a=>∀p W',Ext W W'->W.H p=none->Ow R W' p a->D.nx (σ' p) W'.H)(hσ:∀p,σ.set i (some<|.ref p)=σ' p:=by intro _;rfl):iG te (d5 i) D σ W.H:=h W (.refl _) _ (q.imp fun a k p W' e hp r=>by have:=k p W' e hp r;rw[<-hσ]at this;exact this)
theorem aE{R:Rw α}{m:Res α}(h:EV Er te σ W R m)(q:m.OkE Er fun a=>∀v W',Ext W W'->R W' a v->D.rt v W'.H):yO te D σ W.H:=h W (.refl _) _ q
theorem jg{R:Rp α}{m:Res (List α)}(h:EVo Er te σ W R m)(q:m.OkE Er fun a=>∀p W',Ext W W'->W.H p=none->Ow R W' p a->D.rt (.ref p) W'.H):yO te D σ W.H:=h W (.refl _) _ q
theorem ng{c:TT}{m:Res Bool}(h:TV Er c σ W m)(q:m.OkE Er fun b=>∀W',Ext W W'->if b=true then t D σ W'.H else u D σ W'.H):tm c t u D σ W.H:=h W (.refl _) _ q
theorem iR{S:Type}{c:TT}{m:Res Bool}{mA mB:Res S}{P:S->Prop}(Iv:S->Wd->St->Prop)(h:TV Er c σ W m)(q:(m.bind fun b=>if b then mA else mB).OkE Er P)
  (hA:∀W'(N:St->Hp->Prop),Ext W W'->(∀s W1 σ1,Same W.G W1.G->Iv s W1 σ1->P s->N σ1 W1.H)->mA.OkE Er P->t {D with nx:=N} σ W'.H)
  (hB:∀W'(N:St->Hp->Prop),Ext W W'->(∀s W1 σ1,Same W.G W1.G->Iv s W1 σ1->P s->N σ1 W1.H)->mB.OkE Er P->u {D with nx:=N} σ W'.H)
  (hd:∀s W1 σ1,Same W.G W1.G->Iv s W1 σ1->P s->D.nx σ1 W1.H):tm c t u D σ W.H:=h W (.refl _) _ ((DE q).imp fun b kb W' e=>by
 cases b with
 |true=>exact hA W' D.nx e hd kb
 |false=>exact hB W' D.nx e hd kb)
theorem Ow.ne{R:Rp α}{p q:Addr}{ys:List α}(o:Ow R W q ys)(hp:W.H p=none):q≠p:=by
 obtain⟨vs,a,b⟩:=o.h;exact bX a hp
structure Mu(W W':Wd)(p:Addr):Prop where
 g:Same W.G W'.G
 e:∀W0:Wd,Ext W0 W->W0.H p=none->Ext W0 W'
 h:∀q,q≠p->W.H q≠none->W'.H q=W.H q/\W'.G q=W.G q
theorem Mu.of{W1:Wd}{p:Addr}{o:HO}(e1:Ext W W1)(hg:W1.G p=none):Mu W (W1.mut p o hg) p:=⟨e1.g,fun W0 e0 hp=>(e0.trans e1).mut hp hg,fun q hq hn=>by
 obtain⟨o',ho⟩:=J8.mp hn;exact⟨by show cn W1.H p o q=_;rw[aD hq,e1.h _ _ ho,ho],e1.k q hn⟩⟩
theorem Mu.ow{R:Rp α}[Mono R]{p q:Addr}{ys:List α}(m:Mu W W' p)(hq:q≠p)(o:Ow R W q ys):Ow R W' q ys:=by
 obtain⟨vs,a,b⟩:=o.h;obtain⟨h1,h2⟩:=m.h q hq (by rw[a];exact fun z=>nomatch z);exact⟨by rw[h2];exact o.g,vs,by rw[h1];exact a,b.same m.g⟩
theorem fH{R:Rp α}[Mono R]{p:Addr}{xs:List α}{m:Res α}(o:Ow R W p xs)(h:EV Er te σ W (sh R) m)(q:(m.bind fun a=>fW xs a).OkE Er fun ys=>∀W',Mu W W' p->Ow R W' p ys->D.nx σ W'.H)(hi:σ[i]? =some (some<|.ref p):=by rfl):tj (wH K "list" jf (gW i)<|aL te bV) D σ W.H:=by
 obtain⟨vs,h1,h2⟩:=o.h;refine⟨.ref p,hi,.inl ⟨rfl,vs,Gk h1⟩,h W (.refl _) _<|(DE q).imp fun a ka v W2 e2 hv=>?_⟩;obtain⟨h3,h4⟩:=aZ ka;have hg:=(o.mono e2).g;refine⟨p,vs,v,rfl,rfl,e2.h _ _ h1,by rw[h2.1,F3];unfold Mi.cap at h3;omega,h4 (W2.mut p (.lst<|vs++[v]) hg) (.of e2 hg) ⟨hg,_,aI,(h2.same e2.g).snoc hv⟩⟩
theorem LR.set{R:Rp α}{H:Hp}{as:List α}{vs:List V}{a:α}{v:V}(h:LR R H as vs)(r:R H a v)(j:Nat):LR R H (as.set j a) (vs.set j v):=⟨by simp[h.1],fun i x m e1 e2=>by
 rw[List.getElem?_set]at e1 e2;by_cases z:j=i
 ·rw[if_pos z]at e1 e2;split at e1
  ·split at e2;·cases e1;cases e2;exact r
   ·cases e2
  ·cases e1
 ·rw[if_neg z]at e1 e2;exact h.2 i x m e1 e2⟩
theorem i6{R:Rp α}[Mono R]{p:Addr}{xs:List α}{m:Res α}{mi:Res Int}(o:Ow R W p xs)(h:EV Er te σ W (sh R) m)(hj:EV Er ti σ W (sh isI) mi)(q:(m.bind fun a=>mi.bind fun j=>hV xs j a).OkE Er fun ys=>∀W',Mu W W' p->Ow R W' p ys->D.nx σ W'.H)(hi:σ[i]? =some (some<|.ref p):=by rfl):iG te (yV (gW i) ti tI) D σ W.H:=by
 obtain⟨vs,h1,h2⟩:=o.h;refine h W (.refl _) _<|(DE q).imp fun a ka v W2 e2 hv=>⟨.ref p,hi,hj W2 e2 _<|(DE ka).imp fun j kj x W3 e3 hx=>?_⟩;cases hx;obtain⟨l,h3,h4⟩:=eQ<|DE kj;have e:=e2.trans e3;have hg:=(o.mono e).g;exact⟨p,vs,j,l,rfl,rfl,e.h _ _ h1,by rw[h2.1];exact h3,h4 (W3.mut p (.lst<|vs.set l v) hg) (.of e hg) ⟨hg,_,aI,(h2.same e.g).set (DD (R:=R) e3.g hv) l⟩⟩
def oi{S:Type}(W:Wd)(Iv:S->Wd->St->Prop)(P:S->Prop):St->Hp->Prop:=fun σ' H'=>∃s' W',W'.H=H'/\Same W.G W'.G/\Iv s' W' σ'/\P s'
theorem l7{S:Type}{f:α->S->Res S}{xs:List α}{i:Nat}{a:α}{s:S}(h:xs[i]? =some a):bB f (xs.drop i) s=(f a s).bind fun s=>bB f (xs.drop<|i+1) s:=by
 obtain⟨hi,e⟩:=DR.mp h;rw[FF hi,e];rfl
theorem oR{S:Type}{wi:TI}{tb:TS}{R:Rp α}{m:Res (List α)}{f:α->S->Res S}{s0:S}{P:S->Prop}(Iv:S->Wd->St->Prop)(hi:IV Er wi σ W R m)(q:(m.bind fun xs=>bB f xs s0).OkE Er P)
  (h0:∀W1,Ext W W1->Iv s0 W1 σ)
  (hs:∀Wb W1 W2 a v s σ1 P',Same W.G W1.G->Same Wb.G W1.G->Iv s W1 σ1->Ext W1 W2->R W2.G a v->(f a s).OkE Er P'->g v σ1 W2.H fun σ2 H2=>tb {D with nx:=oi Wb Iv P',ct:=oi Wb Iv P',bk:=D.nx} σ2 H2)
  (hd:∀s W1 σ1,Same W.G W1.G->Iv s W1 σ1->P s->D.nx σ1 W1.H):tD wi g tb D σ W.H:=by
 refine hi W (.refl _) _<|(DE q).imp fun xs kx J W1 e1 hy=>?_;refine⟨fun i n σ' H'=>n=xs.length-i/\i<=xs.length/\∃s' W',W'.H=H'/\Same W1.G W'.G/\Iv s' W' σ'/\(bB f (xs.drop i) s').OkE Er P,⟨xs.length,by simp,by simp,s0,W1,rfl,.refl _,h0 W1 e1,by simpa using kx⟩,?_⟩;rintro i n σ1 H1 ⟨rfl,hi1,s,W2,rfl,e2,iv,k⟩;by_cases hlt:i<xs.length
 ·obtain⟨a,ha⟩:∃a,xs[i]? =some a:=⟨xs[i],by simp[hlt]⟩
  obtain⟨h1,h2⟩:=(hy W2 e2).1 i a ha;refine .inr ⟨h1,oi W1 Iv fun s'=>(bB f (xs.drop<|i+1) s').OkE Er P,fun σ' H'⟨s',W',z1,z2,z3,z4⟩=>⟨xs.length-(i+1),by omega,rfl,hlt,s',W',z1,z2,z3,z4⟩,fun x H' hx=>?_⟩;obtain⟨W3,rfl,e3,rx⟩:=h2 x H' hx;rw[l7 ha]at k;exact hs W1 W2 W3 a x s σ1 (fun s'=>(bB f (xs.drop<|i+1) s').OkE Er P) (e1.g.trans e2) e2 iv e3 rx<|DE k
 ·have e:i=xs.length:=by omega
  subst e;rw[GS]at k;exact .inl ⟨(hy W2 e2).2,hd s W2 σ1 (e1.g.trans e2) iv k⟩
theorem rJ{S:Type}{f:α->S->Res (Fl γ S)}{xs:List α}{i:Nat}{a:α}{s:S}(h:xs[i]? =some a):cQ f (xs.drop i) s=(f a s).bind (u6<|cQ f<|xs.drop<|i+1):=by
 obtain⟨hi,e⟩:=DR.mp h;rw[FF hi,e];rfl
theorem gw{S:Type}{wi:TI}{tb:TS}{R:Rp α}{m:Res (List α)}{f:α->S->Res (Fl γ S)}{s0:S}{P:Fl γ S->Prop}(Iv:S->Wd->St->Prop)(hi:IV Er wi σ W R m)(q:(m.bind fun xs=>cQ f xs s0).OkE Er P)
  (h0:∀W1,Ext W W1->Iv s0 W1 σ)
  (hs:∀Wb W1 W2 a v s σ1 P',Same W.G W1.G->Same Wb.G W1.G->Iv s W1 σ1->Ext W1 W2->R W2.G a v->(∀r,P' (.rt r)->P (.rt r))->(f a s).OkE Er P'->g v σ1 W2.H fun σ2 H2=>tb {D with nx:=oi Wb Iv fun s'=>P'<|.nx s',ct:=oi Wb Iv fun s'=>P'<|.nx s',bk:=D.nx} σ2 H2)
  (hd:∀s W1 σ1,Same W.G W1.G->Iv s W1 σ1->P (.nx s)->D.nx σ1 W1.H):tD wi g tb D σ W.H:=by
 refine hi W (.refl _) _<|(DE q).imp fun xs kx J W1 e1 hy=>?_;refine⟨fun i n σ' H'=>n=xs.length-i/\i<=xs.length/\∃s' W',W'.H=H'/\Same W1.G W'.G/\Iv s' W' σ'/\(cQ f (xs.drop i) s').OkE Er P,⟨xs.length,by simp,by simp,s0,W1,rfl,.refl _,h0 W1 e1,by simpa using kx⟩,?_⟩;rintro i n σ1 H1 ⟨rfl,hi1,s,W2,rfl,e2,iv,k⟩;by_cases hlt:i<xs.length
 ·obtain⟨a,ha⟩:∃a,xs[i]? =some a:=⟨xs[i],by simp[hlt]⟩
  obtain⟨h1,h2⟩:=(hy W2 e2).1 i a ha;refine .inr ⟨h1,oi W1 Iv fun s'=>(cQ f (xs.drop<|i+1) s').OkE Er P,fun σ' H'⟨s',W',z1,z2,z3,z4⟩=>⟨xs.length-(i+1),by omega,rfl,hlt,s',W',z1,z2,z3,z4⟩,fun x H' hx=>?_⟩;obtain⟨W3,rfl,e3,rx⟩:=h2 x H' hx;rw[rJ ha]at k;exact hs W1 W2 W3 a x s σ1 (fun fl=>match fl with| .nx s'=>(cQ f (xs.drop<|i+1) s').OkE Er P| .bk s'=>P (.nx s')| .rt r=>P<|.rt r) (e1.g.trans e2) e2 iv e3 rx (fun r h=>h) ((DE k).imp fun fl h=>by cases fl<;>exact h)
 ·have e:i=xs.length:=by omega
  subst e;rw[GS]at k;exact .inl ⟨(hy W2 e2).2,hd s W2 σ1 (e1.g.trans e2) iv k⟩
section
variable{r:TS}
theorem ak{σ':V->St}{R:Rw α}{m:Res α}(h:EV Er te σ W R m)(q:m.OkE Er fun a=>∀v W',Ext W W'->R W' a v->r D (σ' v) W'.H)(hσ:∀v,σ.set i (some v)=σ' v:=by intro _;rfl):iF (iG te<|d5 i) r D σ W.H:=cC (D:={D with nx:=r D}) h q hσ
theorem cm{σ':Addr->St}{R:Rp α}{m:Res (List α)}(h:EVo Er te σ W R m)(q:m.OkE Er fun a=>∀p W',Ext W W'->W.H p=none->Ow R W' p a->r D (σ' p) W'.H)(hσ:∀p,σ.set i (some<|.ref p)=σ' p:=by intro _;rfl):iF (iG te<|d5 i) r D σ W.H:=wQ (D:={D with nx:=r D}) h q hσ
theorem dz{R:Rw α}{m:Res α}(h:EV Er te σ W R m)(q:m.OkE Er fun a=>∀v W',Ext W W'->R W' a v->g v σ W'.H (r D)):iF (iG te g) r D σ W.H:=h W (.refl _) _ q
theorem bp{c:TT}{m:Res Bool}(h:TV Er c σ W m)(q:m.OkE Er fun b=>∀W',Ext W W'->if b=true then t {D with nx:=r D} σ W'.H else u {D with nx:=r D} σ W'.H):iF (tm c t u) r D σ W.H:=h W (.refl _) _ q
theorem bI{S:Type}{c:TT}{m:Res Bool}{mA mB:Res S}{P:S->Prop}(Iv:S->Wd->St->Prop)(h:TV Er c σ W m)(q:(m.bind fun b=>if b then mA else mB).OkE Er P)
  (hA:∀W'(N:St->Hp->Prop),Ext W W'->(∀s W1 σ1,Same W.G W1.G->Iv s W1 σ1->P s->N σ1 W1.H)->mA.OkE Er P->t {D with nx:=N} σ W'.H)
  (hB:∀W'(N:St->Hp->Prop),Ext W W'->(∀s W1 σ1,Same W.G W1.G->Iv s W1 σ1->P s->N σ1 W1.H)->mB.OkE Er P->u {D with nx:=N} σ W'.H)
  (hd:∀s W1 σ1,Same W.G W1.G->Iv s W1 σ1->P s->r D σ1 W1.H):iF (tm c t u) r D σ W.H:=iR (D:={D with nx:=r D}) Iv h q hA hB hd
theorem uh{R:Rp α}[Mono R]{p:Addr}{xs:List α}{m:Res α}(o:Ow R W p xs)(h:EV Er te σ W (sh R) m)(q:(m.bind fun a=>fW xs a).OkE Er fun ys=>∀W',Mu W W' p->Ow R W' p ys->r D σ W'.H)(hi:σ[i]? =some (some<|.ref p):=by rfl):iF (tj<|wH K "list" jf (gW i)<|aL te bV) r D σ W.H:=fH (D:={D with nx:=r D}) o h q hi
theorem rK{R:Rp α}[Mono R]{p:Addr}{xs:List α}{m:Res α}{mi:Res Int}(o:Ow R W p xs)(h:EV Er te σ W (sh R) m)(hj:EV Er ti σ W (sh isI) mi)(q:(m.bind fun a=>mi.bind fun j=>hV xs j a).OkE Er fun ys=>∀W',Mu W W' p->Ow R W' p ys->r D σ W'.H)(hi:σ[i]? =some (some<|.ref p):=by rfl):iF (iG te<|yV (gW i) ti tI) r D σ W.H:=i6 (D:={D with nx:=r D}) o h hj q hi
theorem cx{S:Type}{wi:TI}{tb:TS}{R:Rp α}{m:Res (List α)}{f:α->S->Res S}{s0:S}{P:S->Prop}(Iv:S->Wd->St->Prop)(hi:IV Er wi σ W R m)(q:(m.bind fun xs=>bB f xs s0).OkE Er P)
  (h0:∀W1,Ext W W1->Iv s0 W1 σ)
  (hs:∀Wb W1 W2 a v s σ1 P',Same W.G W1.G->Same Wb.G W1.G->Iv s W1 σ1->Ext W1 W2->R W2.G a v->(f a s).OkE Er P'->g v σ1 W2.H fun σ2 H2=>tb {D with nx:=oi Wb Iv P',ct:=oi Wb Iv P',bk:=r D} σ2 H2)
  (hd:∀s W1 σ1,Same W.G W1.G->Iv s W1 σ1->P s->r D σ1 W1.H):iF (tD wi g tb) r D σ W.H:=oR (D:={D with nx:=r D}) Iv hi q h0 hs hd
theorem dQ{S:Type}{wi:TI}{tb:TS}{R:Rp α}{m:Res (List α)}{f:α->S->Res (Fl γ S)}{s0:S}{P:Fl γ S->Prop}(Iv:S->Wd->St->Prop)(hi:IV Er wi σ W R m)(q:(m.bind fun xs=>cQ f xs s0).OkE Er P)
  (h0:∀W1,Ext W W1->Iv s0 W1 σ)
  (hs:∀Wb W1 W2 a v s σ1 P',Same W.G W1.G->Same Wb.G W1.G->Iv s W1 σ1->Ext W1 W2->R W2.G a v->(∀r,P' (.rt r)->P (.rt r))->(f a s).OkE Er P'->g v σ1 W2.H fun σ2 H2=>tb {D with nx:=oi Wb Iv fun s'=>P'<|.nx s',ct:=oi Wb Iv fun s'=>P'<|.nx s',bk:=r D} σ2 H2)
  (hd:∀s W1 σ1,Same W.G W1.G->Iv s W1 σ1->P (.nx s)->r D σ1 W1.H):iF (tD wi g tb) r D σ W.H:=gw (D:={D with nx:=r D}) Iv hi q h0 hs hd
end
theorem bA{S:Type}{Wb W:Wd}{Iv:S->Wd->St->Prop}{P:S->Prop}(s:S)(hs:Same Wb.G W.G)(iv:Iv s W σ)(hq:P s):oi Wb Iv P σ W.H:=⟨s,W,rfl,hs,iv,hq⟩
end
end Wb
namespace L2
open PySem PySem.Spec PyProof.Rows
section
variable{X:Cx}{K:DJ}{w:E8}
theorem nh{ns:List Bool}:∀{us:List DM},Vals (ns.map V.bl) us->LSm.BoolsAre us ns:=by
 induction ns with
 |nil=>intro us r;cases r;exact .nil
 |cons b r ih=>intro us h;cases h with|cons h1 h2=>cases h1;exact .cons b<|ih h2
theorem l8(hc:X.calm=true)(hK:X.K=K):dE X (.builtin "all") (fun xs H Q=>∃(p:Addr)(bs:List Bool),xs=[.ref p]/\SqL K H p (bs.map V.bl)/\Q (.bl<|bs.all id) H):=by
 subst hK;intro pins s σ H xs us Q I r h;obtain⟨p,bs,rfl,hq,q⟩:=h;obtain⟨u,rfl,rx⟩:=fh r;cases rx;obtain⟨its,r',pl,hz⟩:=I.list hq;have hb:=nh r';have hl:=pl.isList;have hlt:p<s.heap.objs.size:=by obtain⟨_,e,_⟩:=hl;exact DW e
 refine call_all_walk<|Jo hl ?_;refine⟨s.heap.objs.size,[s.heap.objs.size,p],[s.heap.objs.size],its.toArray.size,_,_,fun i=>(bs[i]?).getD true,rfl,Walks.list (A:=X.A.in1) (I.ok.hd hc) _ p (Ed hlt) its.toArray,
  ⟨⟨_,DS _ rfl,rfl,rfl⟩,hl.push _⟩,fun i v s' Q' E' hP hQ=>?_,fun h' tk hk=>?_⟩
 ·obtain⟨b,e,rfl⟩:=hb.get i v (by simpa using hP);simp only[e,Gs]at hQ;exact Hm hQ
 ·have e:((F2 its.toArray.size).all fun i=>(bs[i]?).getD true)=bs.all id:=by
   rw[DY,hb.length];exact LSm.range_all bs
  rw[e];exact⟨.bl _,H,I.kept<|LSm.kept_iter hk,rfl,q⟩
end
end L2
namespace Wb
open PySem L2 Mi
variable{Er:Nat->Prop}
section
variable{α β γ δ:Type}{t ta tb tc:TE}{σ:St}{W W0 W':Wd}{K:DJ}{w:E8}
theorem wR{a n r:Int}(hc:0<=n/\n<=1000000/\a.natAbs<2^64)(hr:a^n.toNat=r):EV Er (gV (rI As fun i j=>.int<|i^j.toNat) (tC<|.int a)<|tC<|.int n) σ W (sh isI) (.ok r):=fun W1 e1 Q k=>⟨a,n,rfl,rfl,hc,by show Q (.int<|a^n.toNat) W1.H;rw[hr];exact k _ W1 (.refl _) rfl⟩
def isScr(K:DJ):Rp (List Int):=fun H ns v=>∃a,v=.ref a/\SqL K H a (ns.map Hr)
instance zkeep17:Mono (isScr K):=⟨fun e⟨a,h1,h2⟩=>⟨a,h1,e.seq h2⟩⟩
theorem l9{ma:Res (List Int)}(ha:EV Er ta σ W (sh<|isScr K) ma):EV Er (mS (fun xs H Q=>∃x n,xs=[x]/\oB K x H n/\Q (.int n) H)<|aL ta bV) σ W (sh isI) (ma.bind fun a=>.ok (a.length:Int)):=fun W1 e1 Q k=>
 ha W1 e1 _ ((DE k).imp fun a ka x W2 e2 hx=>by
  obtain⟨p,rfl,h1⟩:=hx;exact⟨_,a.length,rfl,.inl ⟨_,W2.ok.seq h1,by simp⟩,ka _ W2 e2 rfl⟩)
theorem ui{ma:Res (List Int)}{mb:Res Int}(ha:EV Er ta σ W (sh<|isScr K) ma)(hb:EV Er tb σ W (sh isI) mb):EV Er (gV (wC K) ta tb) σ W (sh isI) (ma.bind fun a=>mb.bind fun b=>fc a b):=
 rF ha hb fun W a b x y Q hx hy k=>by
  cases hy;obtain⟨p,rfl,h1⟩:=hx;obtain⟨c,h4,h5⟩:=eQ k;have lr:LR isI W.G a (a.map Hr):=⟨by simp,fun i v m e1 e2=>by rw[DU,e2]at e1;cases e1;rfl⟩
  obtain⟨z,h6,h7⟩:=qd lr h4;exact⟨p,_,b,z,rfl,rfl,W.ok.seq h1,h6,h5 _ W (.refl _) h7⟩
theorem lV{ma:Res Bool}(ha:EV Er ta σ W (sh isB) ma):EV Er (mS (fun xs H Q=>(∃i,xs=[.int i]/\Q (.int i) H)\/∃k,xs=[.bl k]/\Q (.int (if k then 1 else 0)) H)<|aL ta bV) σ W (sh isI) (ma.bind fun a=>.ok (if a then(1:Int)else 0)):=fun W1 e1 Q k=>
 ha W1 e1 _ ((DE k).imp fun a ka x W2 e2 hx=>by cases hx;exact .inr ⟨a,rfl,ka _ W2 e2 rfl⟩)
theorem oS{R:Rp α}{W1 W2:Wd}{xs:List α}{vs:List V}{Q:VK}(h:LR R W2.G xs vs)(e:Ext W1 W2)(k:∀p W2,Ext W1 W2->W1.H p=none->Ow R W2 p xs->Q (.ref p) W2.H)(r:Addr)(hr:W2.H r=none):Q (.ref r) (cn W2.H r<|.lst vs):=
 k r (W2.mut r (.lst vs)<|W2.gnone hr) (e.trans<|.own _ hr) (aR e.h hr) ⟨W2.gnone hr,vs,aI,h⟩
theorem ni{R:Rp α}{ma:Res (List α)}(ha:EV Er ta σ W (pk R) ma):EVo Er (mS (fun xs H Q=>∃p ys,xs=[.ref p]/\(SqL K H p ys\/SqT K H p ys)/\∀l,H l=none->Q (.ref l) (cn H l<|.lst ys))<|aL ta bV) σ W R ma:=fun W1 e1 Q k=>
 ha W1 e1 _ (k.imp fun a ka x W2 e2 hx=>by
  obtain⟨p,vs,rfl,h1,h2⟩:=hx;exact⟨p,vs,rfl,.inl (Gk h1),fun l hl=>oS h2 e2 ka l hl⟩)
theorem LR.ints{H:Hp}{ns:List Int}{vs:List V}(h:LR isI H ns vs):vs=ns.map Hr:=by
 refine FJ fun i=>?_;rw[DU];cases e:ns[i]? with
 |none=>rw[Fn]at e;rw[Fn.mpr (by rw[h.1];exact e)];rfl
 |some m=>obtain⟨v,a,b⟩:=h.get e;rw[a];cases b;rfl
theorem LR.bools{H:Hp}{ns:List Bool}{vs:List V}(h:LR isB H ns vs):vs=ns.map V.bl:=by
 refine FJ fun i=>?_;rw[DU];cases e:ns[i]? with
 |none=>rw[Fn]at e;rw[Fn.mpr (by rw[h.1];exact e)];rfl
 |some m=>obtain⟨v,a,b⟩:=h.get e;rw[a];cases b;rfl
theorem zx{ma:Res (List Int)}(ha:EV Er ta σ W (pk isI) ma):EV Er (mS (fun xs H Q=>∃(p:Addr)(ns:List Int),xs=[.ref p]/\SqL K H p (ns.map Hr)/\Q (.int ns.sum) H)<|aL ta bV) σ W (sh isI) (ma.bind fun a=>.ok a.sum):=fun W1 e1 Q k=>
 ha W1 e1 _ ((DE k).imp fun a ka x W2 e2 hx=>by
  obtain⟨p,vs,rfl,h1,h2⟩:=hx;exact⟨p,a,rfl,Gk (by rw[h1,h2.ints]),ka _ W2 e2 rfl⟩)
theorem uj{ma:Res (List Bool)}(ha:EV Er ta σ W (pk isB) ma):EV Er (mS (fun xs H Q=>∃(p:Addr)(bs:List Bool),xs=[.ref p]/\SqL K H p (bs.map V.bl)/\Q (.bl<|bs.all id) H)<|aL ta bV) σ W (sh isB) (ma.bind fun a=>.ok<|a.all id):=fun W1 e1 Q k=>
 ha W1 e1 _ ((DE k).imp fun a ka x W2 e2 hx=>by
  obtain⟨p,vs,rfl,h1,h2⟩:=hx;exact⟨p,a,rfl,Gk (by rw[h1,h2.bools]),ka _ W2 e2 rfl⟩)
theorem uk{f:α->V}{g:β->Key}[DecidableEq β](hg:∀a b,g a=g b->a=b)(kvs:List (β×α))(k:β):f9 (kvs.map fun p=>(g p.1,f p.2)) (g k)=(look kvs k).map f:=by
 induction kvs with
 |nil=>rfl
 |cons p r ih=>
  unfold look at ih ⊢;rw[EY];by_cases z:p.1=k;·rw[fS (by rw[z]),List.find?_cons_of_pos (by simpa using z)];rfl
  ·rw[fT<|fun e=>z<|hg _ _ e,ih,List.find?_cons_of_neg (by simpa using z)]
theorem qf{R:Rp α}{Rk:Rp β}[DecidableEq β]{d:Addr}{kv:List (Key×V)}{kvs:List (β×α)}{f:α->V}{g:β->Key}(hg:∀a b,g a=g b->a=b)(hf:∀H a,R H a<|f a)(hk:∀H b v,Rk H b v->v=kV (g b))(D:DictK K w d kv)(e:kv=kvs.map fun p=>(g p.1,f p.2)){m:Res β}(h:EV Er t σ W (sh Rk) m):
  EV Er (jB K w (tC<|.ref d) t) σ W (sh R) (m.bind fun k=>getD kvs k):=fun W1 e1 Q k=>
 h W1 e1 _ ((DE k).imp fun b kb v W2 e2 hv=>by
  obtain⟨a,h1,h2⟩:=eQ kb;refine⟨d,kv,g b,f a,rfl,D,hk _ _ _ hv,?_,h2 _ W2 e2 (hf _ _)⟩;rw[e,uk hg,h1];rfl)
theorem Ct:∀a b:Tx,(GJ (sOf a):Key)=GJ (sOf b)->a=b:=fun a b e=>pW<|N8 e
theorem Cu:∀a b:Int,(GI a:Key)=GI b->a=b:=fun a b e=>N7 e
theorem rL{d:Addr}{kv:List (Key×V)}{kvs:List (Tx×Int)}(D:DictK K w d kv)(e:kv=kvs.map fun p=>(GJ<|sOf p.1,Hr p.2)){m:Res Tx}(h:EV Er t σ W (sh isS) m):EV Er (jB K w (tC<|.ref d) t) σ W (sh isI) (m.bind fun k=>getD kvs k):=qf (R:=isI) (f:=Hr) (g:=fun a=>GJ<|sOf a) Ct (fun _ _=>rfl) (fun _ _ _ h=>h) D e h
theorem rM{d:Addr}{kv:List (Key×V)}{kvs:List (Int×Tx)}(D:DictK K w d kv)(e:kv=kvs.map fun p=>(GI p.1,JR<|sOf p.2)){m:Res Int}(h:EV Er t σ W (sh isI) m):EV Er (jB K w (tC<|.ref d) t) σ W (sh isS) (m.bind fun k=>getD kvs k):=qf (R:=isS) (f:=fun a=>JR<|sOf a) (g:=fun a=>GI a) Cu (fun _ _=>rfl) (fun _ _ _ h=>h) D e h
theorem jO{ma:Res Int}{mb:Res (List Int)}(ha:EV Er ta σ W (sh isI) ma)(hb:EV Er tb σ W (pk isI) mb):EV Er (gV (Cq K true) ta tb) σ W (sh isB) (ma.bind fun a=>mb.bind fun b=>.ok<|!b.contains a):=
 rF ha hb fun W a b x y Q hx hy k=>by
  cases hx;obtain⟨p,vs,rfl,h1,h2⟩:=hy;refine⟨p,vs,rfl,.inl<|Gk h1,rfl,by rw[h2.ints];simp[L2.flatV],?_⟩;have e:By (.int a) vs=b.contains a:=by
   rw[h2.ints];unfold By;rw[List.any_map,FA];simp[L2.eqV]
   try exact⟨fun⟨x,h,e⟩=>by subst e;exact h,fun h=>⟨a,h,rfl⟩⟩
  rw[if_pos rfl,e];exact k _ W (.refl _) rfl
theorem nj{R:Rp α}[Mono R]{ma:Res (List α)}(ha:EV Er ta σ W (pk R) ma):EV Er (mS (fun xs H Q=>∃p ys,xs=[.ref p]/\((SqL K H p ys/\∀l,H l=none->Q (.ref l) (cn H l<|.tup ys))\/(SqT K H p ys/\Q (.ref p) H)))<|aL ta bV) σ W (sh<|isT3 K R R R) (ma.bind fun a=>u9 a):=fun W1 e1 Q k=>
 ha W1 e1 _ ((DE k).imp fun a ka x W2 e2 hx=>by
  obtain⟨p,vs,rfl,h1,h2⟩:=hx
  match a,ka,h2 with
  | [a,b,c],ka,h2=>
   match vs,h2.1,h2,h1 with
   | [x,y,z],_,h2,h1=>
    refine⟨p,_,rfl,.inl ⟨Gk h1,fun l hl=>ka (.ref l) (W2.new l<|.tup [x,y,z]) (e2.trans<|.new _ hl) ⟨l,x,y,z,rfl,Mg aI,?_,?_,?_⟩⟩⟩;·exact DD (HI _ hl).g (h2.2 0 x a rfl rfl)
    ·exact DD (HI _ hl).g (h2.2 1 y b rfl rfl)
    ·exact DD (HI _ hl).g (h2.2 2 z c rfl rfl))
end
end Wb
namespace L2
open PySem PySem.Spec PyProof.Rows
section
variable{X:Cx}{K:DJ}{w:E8}{o e:Expr}{to:TE}{t:TA}{apos cpos:Pos}
def AN(K:DJ):V->List V->Hp->VK->Prop:=fun x xs H Q=>∃(p:Addr)(ys:List (List Nat)),x=.str (sOf [])/\xs=[.ref p]/\SqL K H p (ys.map fun y=>JR<|sOf y)/\ys.flatten.length<=100000/\Q (.str<|sOf ys.flatten) H
def AO:V->List V->Hp->VK->Prop:=fun x xs H Q=>∃a b,x=.str a/\xs=[.str b]/\0<=J7 a b/\Q (.int<|J7 a b) H
abbrev Cv(X:Cx)(cpos:Pos)(e:Expr):Prop:=((backTo cpos<|starEach [e] X.env).all (fun x=> !x.1)&&(backToKw cpos<|keywordEach [] X.env).all (fun x=>x.1.isSome)&&decide ([e].length+([]:List JW).length+(if([]:List JW).isEmpty then 0 else 1)<30))=true
theorem gb(h:X.K=K):dE X (.type "tuple") (fun xs H Q=>∃p ys,xs=[.ref p]/\((SqL K H p ys/\∀l,H l=none->Q (.ref l) (cn H l<|.tup ys))\/(SqT K H p ys/\Q (.ref p) H))):=h▸kM
theorem jP(h:X.K=K)(ho:PE X o to)(ha:PA X [e] t)(hbase:attributeBase o "join" X.env (eval o X.env)=eval o X.env:=by rfl)(hfew:Cv X cpos e:=by rfl)(hline:(apos.endLine==cpos.line)=true:=by rfl)(hs:starEach [e] X.env=(false,eval e X.env)::starEach [] X.env:=by rfl)(hplain:(backTo cpos<|starEach [] X.env).any (·.1)=false:=by rfl):
  PE X (.Call (.Attribute o "join" apos) [e] [] cpos) (wH K "str" (AN K) to t):=oM (K:=K) h JZ PySem.F.slot_str_join PySem.F.type_str_join (tX (K:=K) h) ho ha hbase hfew hline hs hplain
theorem fo(h:X.K=K)(hc:X.calm=true)(ho:PE X o to)(ha:PA X [e] t)(hbase:attributeBase o "index" X.env (eval o X.env)=eval o X.env:=by rfl)(hfew:Cv X cpos e:=by rfl)(hline:(apos.endLine==cpos.line)=true:=by rfl)(hs:starEach [e] X.env=(false,eval e X.env)::starEach [] X.env:=by rfl)(hplain:(backTo cpos<|starEach [] X.env).any (·.1)=false:=by rfl):
  PE X (.Call (.Attribute o "index" apos) [e] [] cpos) (wH K "str" AO to t):=oM (K:=K) h JZ PySem.F.slot_str_index PySem.F.type_str_index (tQ hc) ho ha hbase hfew hline hs hplain
theorem bY(h:X.K=K)(ho:PE X o to)(ha:PA X [e] t)(hbase:attributeBase o "append" X.env (eval o X.env)=eval o X.env:=by rfl)(hfew:Cv X cpos e:=by rfl)(hline:(apos.endLine==cpos.line)=true:=by rfl)(hs:starEach [e] X.env=(false,eval e X.env)::starEach [] X.env:=by rfl)(hplain:(backTo cpos<|starEach [] X.env).any (·.1)=false:=by rfl):
  PE X (.Call (.Attribute o "append" apos) [e] [] cpos) (wH K "list" jf to t):=oM (K:=K) h PySem.F.plainAttrs_list Ka PySem.F.type_list_append rf ho ha hbase hfew hline hs hplain
end
end L2
namespace Wb
open PySem L2 Mi
variable{Er:Nat->Prop}
section
variable{α β γ δ:Type}{t t1 t2 t3 ta tb tc:TE}{σ:St}{W W0 W':Wd}{K:DJ}{w:E8}
class NN{α:Type}(R:Rp α):Prop where
 nn:∀H a v,R H a v->v≠.non
instance zkeep26:NN isI:=⟨fun _ _ _ h=>by cases h;exact fun z=>nomatch z⟩
instance zkeep27:NN isS:=⟨fun _ _ _ h=>by cases h;exact fun z=>nomatch z⟩
theorem nk{R:Rp α}[NN R]{m:Res α}(h:EV Er t σ W (sh R) m):EV Er t σ W (sh<|isO R) (m.bind fun a=>.ok<|some a):=fun W1 e1 Q k=>
 h W1 e1 _ ((DE k).imp fun a ka v W2 e2 hv=>ka v W2 e2 ⟨hv,NN.nn _ _ _ hv⟩)
theorem gc{R:Rp α}{m:Res (Option α)}(h:EV Er t σ W (sh<|isO R) m):EV Er t σ W (sh R) (m.bind fun a=>lQ a):=fun W1 e1 Q k=>
 h W1 e1 _ ((DE k).imp fun a ka v W2 e2 hv=>by
  obtain⟨b,rfl,hb⟩:=eQ ka;exact hb v W2 e2 hv.1)
theorem um{xs:List α}{ys:List β}{zs:List γ}{i:Nat}{p:α×β×γ}(h:(xs.zip<|ys.zip zs)[i]? =some p):xs[i]? =some p.1/\ys[i]? =some p.2.1/\zs[i]? =some p.2.2:=by
 rw[FE]at h;obtain⟨h1,h2⟩:=h;rw[FE]at h2;exact⟨h1,h2.1,h2.2⟩
theorem qg{R1:Rp α}{R2:Rp β}{R3:Rp γ}[Mono R1][Mono R2][Mono R3]{m1:Res (List α)}{m2:Res (List β)}{m3:Res (List γ)}(h1:SV Er t1 σ W K R1 m1)(h2:SV Er t2 σ W K R2 m2)(h3:SV Er t3 σ W K R3 m3):IV Er (yu K<|aL t1<|aL t2<|aL t3 bV) σ W (isT3 K R1 R2 R3) (m1.bind fun xs=>m2.bind fun ys=>m3.bind fun zs=>.ok<|xs.zip<|ys.zip zs):=fun W1 e1 P k=>
 h1 W1 e1 _ ((DE k).imp fun xs kx v W2 e2 hv=>h2 W2 (e1.trans e2) _ ((DE kx).imp fun ys ky u W3 e3 hu=>h3 W3 ((e1.trans e2).trans e3) _ ((DE ky).imp fun zs kz r W4 e4 hr=>by
  obtain⟨c1,vs,rfl,a1,b1⟩:=NQ hv (e3.trans e4).g;obtain⟨c2,us,rfl,a2,b2⟩:=NQ hu e4.g;obtain⟨c3,rs,rfl,a3,b3⟩:=hr;refine⟨c1,c2,c3,vs,us,rs,rfl,a1 W4<|.refl _,a2 W4<|.refl _,a3 W4<|.refl _,kz _ W4 ((e2.trans e3).trans e4) fun W5 e5=>⟨fun i ab hab=>?_,?_⟩⟩
  ·obtain⟨q1,q2,q3⟩:=um hab;obtain⟨x,hx,rx⟩:=b1.get q1;obtain⟨y,hy,ry⟩:=b2.get q2;obtain⟨z,hz,rz⟩:=b3.get q3;refine⟨⟨vs,us,rs,x,y,z,a1 W5 e5,a2 W5 e5,a3 W5 e5,hx,hy,hz⟩,fun o H'⟨p,x',y',z',hp,z0,z1,z2,z3,z4⟩=>⟨W5.new p<|.tup [x',y',z'],by rw[z4];rfl,.new _ hp,p,x',y',z',z0,Mg aI,?_,?_,?_⟩⟩
   ·have:=z1 vs<|a1 W5 e5;rw[hx]at this;cases this;exact DD (e5.trans (HI _ hp).g) rx
   ·have:=z2 us<|a2 W5 e5;rw[hy]at this;cases this;exact DD (e5.trans (HI _ hp).g) ry
   ·have:=z3 rs<|a3 W5 e5;rw[hz]at this;cases this;exact DD (e5.trans (HI _ hp).g) rz
  ·refine⟨vs,us,rs,a1 W5 e5,a2 W5 e5,a3 W5 e5,?_⟩;rw[G2,G2,b1.1,b2.1,b3.1];omega)))
theorem uo{ma:Res (List Int)}(ha:EV Er ta σ W (pk isI) ma):EVo Er (mS (fun xs H Q=>∃(p:Addr)(ns:List Int),xs=[.ref p]/\SqL K H p (ns.map Hr)/\ns.length<64/\∀(q:Addr)(ns':List Int),H q=none->ns'.Perm ns->ns'.Pairwise (· <= ·)->Q (.ref q) (cn H q<|.lst<|ns'.map Hr))<|aL ta bV) σ W isI (ma.bind fun a=>u7 a):=fun W1 e1 Q k=>
 ha W1 e1 _ ((DE k).imp fun a ka x W2 e2 hx=>by
  obtain⟨p,vs,rfl,h1,h2⟩:=hx;obtain⟨h3,h4⟩:=aZ ka;refine⟨p,a,rfl,Gk (by rw[h1,h2.ints]),h3,fun q ns' hq hp hs=>?_⟩;rw[rE hp hs];exact oS (vs:=(iN a).map Hr) ⟨by simp,fun i v m e1 e2=>by rw[DU,e2]at e1;cases e1;rfl⟩ e2 h4 q hq)
theorem i7{R1:Rp α}{R2:Rp β}{d:Addr}{x y:V}{a:α}{b:β}(T:∀H,SqT K H d [x,y])(h1:∀H,R1 H a x)(h2:∀H,R2 H b y):EV Er (tC<|.ref d) σ W (sh<|isT2 K R1 R2) (.ok (a,b)):=fun W1 _ Q k=>k _ W1 (.refl _) ⟨d,x,y,rfl,T _,h1 _,h2 _⟩
theorem gI(i:Int):∀H,isI H i (.int i):=fun _=>rfl
end
end Wb
namespace Mi
theorem gy{a b:Int}(h:0<b):jH a b=.ok (a%b):=bj h
theorem nq{a b:Int}(h1:0<b)(h2:b<1073741824):jG a b=.ok (a/b):=bj ⟨h1,h2⟩
theorem jQ{a b:Int}(h1: -18446744073709551616<a)(h2:a<18446744073709551616):jb a b=.ok (a*b):=bj<|.inl ⟨h1,h2⟩
theorem nr{a b:Int}(h1: -18446744073709551616<b)(h2:b<18446744073709551616):jb a b=.ok (a*b):=bj<|.inr ⟨h1,h2⟩
theorem eU{α:Type}{xs:List α}{x:α}(h:xs.length<100000):fW xs x=.ok (xs++[x]):=bj h
theorem jh{a b:Tx}(h:a.length+b.length<=100000):jc a b=.ok (a++b):=bj h
theorem qh{α:Type}{a b:List α}(h:a.length+b.length<=100000):wL a b=.ok (a++b):=bj h
theorem wU{a:Tx}(h:a.length<=100000):zr a=.ok (a.length:Int):=bj h
theorem wV{c:Nat}{n:Int}(h0:0<=n)(h1:n<=100000):zq [c] n=.ok (Hw n.toNat c):=bj ⟨h0,h1⟩
theorem qi{a:Tx}{lo hi:Option Int}(h:a.length<=100000):rD a lo hi=.ok (cut a lo hi):=bj h
theorem nt{xs:List Tx}(h:xs.flatten.length<=100000):nc xs=.ok xs.flatten:=bj h
theorem rN{n:Nat}(h:n<=100000):fX (n:Int)=.ok ((F2 n).map fun(i:Nat)=>(i:Int)):=by
 unfold fX;rw[bj ⟨by omega,by omega⟩];simp[fe]
theorem ji{α:Type}{xs:List α}{i:Int}(h0:0<=i)(h1:i<xs.length):∃x,fc xs i=.ok x/\xs[i.toNat]? =some x:=by
 obtain⟨h,e⟩:=u4 h0 h1;exact⟨xs[i.toNat],by unfold fc;rw[e];rfl,by simp[h]⟩
theorem fI{x:Tx}{i:Int}(h0:0<=i)(h1:i<x.length)(h2:x.length<=100000):∃c,eR x i=.ok [c]/\x[i.toNat]? =some c:=by
 obtain⟨h,e⟩:=u4 h0 h1;refine⟨x[i.toNat],?_,by simp[h]⟩;unfold eR;rw[bj h2];show(lQ<|sX x i).bind _=_;rw[e];rfl
theorem zy{x:Tx}{i:Int}(h0:0<=i)(h1:i<x.length)(h2:x.length<=100000):eR x i=.ok [x[i.toNat]?.getD 0]:=by
 obtain⟨c,e,h⟩:=fI h0 h1 h2;rw[e,h];rfl
theorem lW{α:Type}{xs:List α}{i:Int}{x:α}(h0:0<=i)(h1:i<xs.length):hV xs i x=.ok (xs.set i.toNat x):=by
 unfold hV ixN;rw[if_pos h0,if_pos h1];rfl
theorem ur{xs:List Int}(h:xs.length<64):u7 xs=.ok (iN xs):=bj h
theorem cS{α S:Type}{f:α->S->Res S}(I:List α->S->Prop)(xs:List α)(s0:S)(h0:I [] s0)(step:∀pre a post s,xs=pre++a::post->I pre s->∃s',f a s=.ok s'/\I (pre++[a]) s'):
  ∃s,bB f xs s0=.ok s/\I xs s:=by
 have key:∀(post pre:List α)(s:S),xs=pre++post->I pre s->∃s',bB f post s=.ok s'/\I xs s':=by
  intro post
  induction post with
  |nil=>intro pre s e h;rw[Gi]at e;subst e;exact⟨s,rfl,h⟩
  |cons a r ih=>
   intro pre s e h;obtain⟨s1,e1,h1⟩:=step pre a r s e h;obtain⟨s2,e2,h2⟩:=ih (pre++[a]) s1 (by rw[e];simp) h1;exact⟨s2,by unfold bB;rw[e1];exact e2,h2⟩
 exact key xs [] s0 rfl h0
theorem iS{α γ:Type}{f:α->Unit->Res (Fl γ Unit)}{g:α->Option γ}(xs:List α)(step:∀a∈xs,f a ()=.ok (match g a with|some r=>.rt r|none=>.nx ())):cQ f xs ()=.ok (match xs.findSome? g with|some r=>.rt r|none=>.nx ()):=by
 induction xs with
 |nil=>rfl
 |cons a r ih=>
  unfold cQ;rw[step a<|E5 ..];cases h:g a with
  |some z=>simp[h,u6]
  |none=>simp only[DG,u6,IU,h];exact ih fun b hb=>step b<|E9 _ hb
theorem nu{α β:Type}{f:α->Res (Option β)}{g:α->Option β}:∀{xs:List α},(∀x∈xs,f x=.ok (g x))->hW f xs=.ok (xs.filterMap g)
 | [],_=>rfl
 |a::r,h=>by
  unfold hW;rw[h a<|E5 ..,DG,nu fun x hx=>h x<|E9 _ hx,DG,GK];cases g a<;>rfl
theorem uv{α β:Type}{f:α->Res (Option β)}{g:α->Option β}{xs:List α}(hl:xs.length<=100000)(h:∀x∈xs,f x=.ok (g x)):q9 xs f=.ok (xs.filterMap g):=by
 unfold q9;rw[bj hl,DG,nu h]
theorem uw{α β:Type}{f:α->Res β}{P:α->β->Prop}{xs:List α}(hl:xs.length<=100000)(h:∀x∈xs,∃y,f x=.ok y/\P x y):∃ys,dv xs f=.ok ys/\ys.length=xs.length/\∀(i:Nat)x y,xs[i]? =some x->ys[i]? =some y->P x y:=by
 unfold dv;rw[bj hl,DG];clear hl
 induction xs with
 |nil=>exact⟨[],rfl,rfl,fun i x y e=>by simp at e⟩
 |cons a r ih=>
  obtain⟨b,e,hb⟩:=h a<|E5 ..;obtain⟨bs,e2,hl2,h2⟩:=ih fun x hx=>h x<|E9 _ hx;refine⟨b::bs,by unfold je;rw[e,DG,e2];rfl,by simp[hl2],fun i x y e3 e4=>?_⟩;cases i with
  |zero=>cases e3;cases e4;exact hb
  |succ j=>exact h2 j x y e3 e4
theorem qj(l:List Nat):((l.map fun c=>[c]):List Tx).flatten=l:=by induction l with|nil=>rfl|cons a r ih=>simp[ih]
theorem jR{α:Type}(l:List α)(k:Nat):cut l none (some (k:Int))=l.take k:=by
 unfold cut sIx;simp only[];rw[if_neg (by omega),Fj];simp[List.take_eq_take_iff]
theorem jS{α:Type}(l:List α)(k:Nat):cut l (some (k:Int)) none=l.drop k:=by
 unfold cut sIx;simp only[];rw[if_neg (by omega),Fj];by_cases h:k<=l.length;·rw[Nat.min_eq_left h,He (by simp)]
 ·rw[Nat.min_eq_right (by omega),Ib (by omega),Ib (by omega)];simp
theorem dR{x:Tx}{t:Tx}(h:t∈bq x):∃c∈x,t=[c]:=by
 unfold bq at h;obtain⟨c,hc,e⟩:=Ex.mp h;exact⟨c,hc,e.symm⟩
theorem wW(a:Int):0<=cP a:=by unfold cP;split<;>omega
section
variable{α β:Type}{P:α->Prop}{Q:β->Prop}
theorem jj{m:Res α}{f:α->Res β}(h:m.Ok fun a=>(f a).Ok Q):(m.bind f).Ok Q:=Res.bind_ok h
theorem Cw{b:Bool}{A B:Res α}(h1:b=true->A.Ok P)(h2:b=false->B.Ok P):(if b=true then A else B).Ok P:=by
 cases b with
 |true=>exact h1 rfl
 |false=>exact h2 rfl
theorem ny{c:Prop}[Decidable c]{A B:Res α}(h1:c->A.Ok P)(h2:¬c->B.Ok P):(if decide c=true then A else B).Ok P:=by
 by_cases h:c;·rw[decide_eq_true h];exact h1 h
 ·rw[decide_eq_false h];exact h2 h
theorem fK{a:α}(h:P a):(DK a).Ok P:=h
end
end Mi
namespace L2
open PySem PySem.Spec PyProof.Rows Wb
end L2
namespace L2
open PySem PySem.Spec PyProof.Rows
end L2
namespace Wb
open PySem L2 Mi
variable{Er:Nat->Prop}
end Wb
namespace Mi
inductive Dat where
 |n|b (x:Bool)|i (x:Int)|s (x:Tx)|t (xs:List Dat)|l (xs:List Dat)
def bT(k:Nat)(d:Dat):Bool:=match d,k with
 | .b _,0=>true| .b _,1=>true| .i _,1=>true| .s _,2=>true| .l _,3=>true| .t _,4=>true|_,_=>false
def i8{α:Type}(f:α->Dat)(o:Option α):Dat:=match o with|none=>.n|some a=>f a
def gS{κ α:Type}[DecidableEq κ](kvs:List (κ×α))(k:κ)(a:α):List (κ×α):=
 if(kvs.any fun kv=>decide<|kv.1=k)=true then kvs.map (fun kv=>if kv.1=k then(kv.1,a)else kv)else kvs++[(k,a)]
end Mi
open Mi.Dat renaming i->Fh,t->Hs,l->HM,s->NM
namespace PySem
open Sem (wp)
open AutoSeq1 (wpAny_loadPart')
end PySem
namespace L2
open PySem PySem.Spec PyProof.Rows
end L2
namespace L2
end L2
namespace Wb
open PySem L2 Mi
variable{Er:Nat->Prop}
inductive isU(K:DJ)(H:Hp):Dat->V->Prop where
 |n:isU K H .n .non
 |b {x:Bool}:isU K H (.b x) (.bl x)
 |i {x:Int}:isU K H (.i x) (.int x)
 |s {x:Tx}:isU K H (.s x) (.str<|sOf x)
 |t {p:Addr} {xs:List Dat} {vs:List V} (h:SqT K H p vs) (hl:vs.length=xs.length) (r:∀(j:Nat)x v,xs[j]? =some x->vs[j]? =some v->isU K H x v):isU K H (.t xs) (.ref p)
 |l {p:Addr} {xs:List Dat} {vs:List V} (h:H p=some (.lst vs)) (hl:vs.length=xs.length) (r:∀(j:Nat)x v,xs[j]? =some x->vs[j]? =some v->isU K H x v):isU K H (.l xs) (.ref p)
section
variable{α β γ δ:Type}{t t1 t2 t3 t4 ta tb tc td:TE}{σ:St}{W W0 W':Wd}{K:DJ}{w:E8}
def qk(K:DJ)(R:Rp α)(u:α->Dat):Prop:=∀H a v,R H a v->isU K H (u a) v
theorem cT:qk K isI .i:=fun _ _ _ h=>by cases h;exact .i
theorem yv:qk K isS .s:=fun _ _ _ h=>by cases h;exact .s
theorem nz{R:Rp α}{u:α->Dat}(h:qk K R u):qk K (isO R) (fun o=>i8 u o):=fun H o v r=>by
 cases o with
 |none=>cases r;exact .n
 |some a=>exact h _ _ _ r.1
theorem j4{R:Rp α}{u:α->Dat}(h:qk K R u):qk K (isL R) (fun xs=>.l<|xs.map u):=fun H xs v⟨p,vs,h0,h1,h2⟩=>by
 subst h0;refine .l h1 (by rw[El,h2.1]) fun j x v e1 e2=>?_;rw[DU]at e1;obtain⟨a,ha,rfl⟩:=EO.mp e1;exact h _ _ _<|h2.2 j v a e2 ha
theorem jT{R1:Rp α}{R2:Rp β}{u1:α->Dat}{u2:β->Dat}(h1:qk K R1 u1)(h2:qk K R2 u2):qk K (isT2 K R1 R2) (fun x=>.t [u1 x.1,u2 x.2]):=fun H a v⟨p,x,y,h0,h,r1,r2⟩=>by
 subst h0;refine .t h rfl fun j d v e1 e2=>?_
 match j,e1,e2 with
 |0,e1,e2=>cases e1;cases e2;exact h1 _ _ _ r1
 |1,e1,e2=>cases e1;cases e2;exact h2 _ _ _ r2
theorem AQ{R1:Rp α}{R2:Rp β}{R3:Rp γ}{u1:α->Dat}{u2:β->Dat}{u3:γ->Dat}(h1:qk K R1 u1)(h2:qk K R2 u2)(h3:qk K R3 u3):qk K (isT3 K R1 R2 R3) (fun x=>.t [u1 x.1,u2 x.2.1,u3 x.2.2]):=fun H a v⟨p,x,y,z,h0,h,r1,r2,r3⟩=>by
 subst h0;refine .t h rfl fun j d v e1 e2=>?_
 match j,e1,e2 with
 |0,e1,e2=>cases e1;cases e2;exact h1 _ _ _ r1
 |1,e1,e2=>cases e1;cases e2;exact h2 _ _ _ r2
 |2,e1,e2=>cases e1;cases e2;exact h3 _ _ _ r3
theorem dD{R:Rp α}{u:α->Dat}{m:Res α}(h:qk K R u)(e:EV Er t σ W (sh R) m):EV Er t σ W (sh<|isU K) (m.bind fun a=>.ok<|u a):=fun W1 e1 Q k=>
 e W1 e1 _ ((DE k).imp fun a ka v W2 e2 hv=>ka v W2 e2<|h _ _ _ hv)
theorem rO{K:DJ}(a b:String)(r:Bool)(h:Hu [] (.type a) (.type b)=some r):Hu K (.type a) (.type b)=some r:=by first|exact h|(rw[<-h];rfl)
def AR:Nat->String|0=>"bool"|1=>"int"|2=>"str"|3=>"list"|_=>"tuple"
theorem cf{ma:Res Dat}{j:Nat}(hj:j<5)(ha:EV Er ta σ W (sh<|isU K) ma):EV Er (mS (fun xs H Q=>∃x T t b,xs=[x,.ty T]/\TyOf K H x t/\Hu K t (.type T)=some b/\Q (.bl b) H)<|aL ta<|aL (tC<|.ty<|AR j) bV) σ W (sh isB) (ma.bind fun a=>.ok<|bT j a):=fun W1 e1 Q k=>
  ha W1 e1 _ ((DE k).imp fun a ka x W2 e2 hx=>by
    have hj':j=0\/j=1\/j=2\/j=3\/j=4:=by omega
    cases hx with
    | n => refine ⟨_, _, _, false, rfl, .non, ?_, ?_⟩
           ·rcases hj' with rfl|rfl|rfl|rfl|rfl<;>exact rO _ _ _ rfl
           · have:=ka (.bl<|bT j .n) W2 e2 rfl;rcases hj' with rfl|rfl|rfl|rfl|rfl<;>exact this
    | b => rename_i x
           refine⟨_,_,_,bT j<|.b x,rfl,.bl _,?_,ka _ W2 e2 rfl⟩;rcases hj' with rfl|rfl|rfl|rfl|rfl<;>exact rO _ _ _ rfl
    | i => rename_i x
           refine⟨_,_,_,bT j<|.i x,rfl,.int _,?_,ka _ W2 e2 rfl⟩;rcases hj' with rfl|rfl|rfl|rfl|rfl<;>exact rO _ _ _ rfl
    | s => rename_i x
           refine⟨_,_,_,bT j<|.s x,rfl,.str _,?_,ka _ W2 e2 rfl⟩;rcases hj' with rfl|rfl|rfl|rfl|rfl<;>exact rO _ _ _ rfl
    | @t p xs vs h hl r=>
           refine⟨_,_,_,bT j<|.t xs,rfl,.tup<|Fm W2.ok h,?_,ka _ W2 e2 rfl⟩;rcases hj' with rfl|rfl|rfl|rfl|rfl<;>exact rO _ _ _ rfl
    | @l p xs vs h hl r=>
           refine⟨_,_,_,bT j (.l xs),rfl,.lst (W2.ok _ _ h),?_,ka _ W2 e2 rfl⟩;rcases hj' with rfl|rfl|rfl|rfl|rfl<;>exact rO _ _ _ rfl)
theorem lX{D:Ends}{i:Nat}{te:TE}{a:Int}{m:Res Int}{f:Int->Int->Int}{σ':Int->St}(h:EV Er te σ W (sh isI) m)(q:m.OkE Er fun b=>∀W',Ext W W'->D.nx (σ'<|f a b) W'.H)(hi:σ[i]? =some (some<|.int a):=by rfl)(hσ:∀c,σ.set i (some<|.int c)=σ' c:=by intro _;rfl):wu i te (Bt f) D σ W.H:=
 ⟨.int a,hi,h W (.refl _) _ (q.imp fun b kb v W' e hv=>by cases hv;exact⟨a,b,rfl,rfl,by have:=kb W' e;rw[<-hσ]at this;exact this⟩)⟩
theorem rP{D:Ends}{r:TS}{i:Nat}{te:TE}{a:Int}{m:Res Int}{f:Int->Int->Int}{σ':Int->St}(h:EV Er te σ W (sh isI) m)(q:m.OkE Er fun b=>∀W',Ext W W'->r D (σ'<|f a b) W'.H)(hi:σ[i]? =some (some<|.int a):=by rfl)(hσ:∀c,σ.set i (some<|.int c)=σ' c:=by intro _;rfl):iF (wu i te<|Bt f) r D σ W.H:=lX (D:={D with nx:=r D}) h q hi hσ
theorem EV.go{W1:Wd}{R:Rw α}{m:Res α}{Q:VK}(e:Ext W W1)(h:EV Er t σ W R m)(k:m.OkE Er fun a=>∀v W2,Ext W1 W2->R W2 a v->Q v W2.H):t σ W1.H Q:=h W1 e Q k
theorem ux{X:Cx}{st:Stmt}:PS X st yP:=fun _ _ _ _ _ _ h=>h.elim
end
end Wb
namespace Mi
end Mi
namespace L2
open PySem PySem.Spec PyProof.Rows
end L2
namespace L2
open PySem PySem.Spec PySem.Calls PyProof.Rows
open PySem.W (findIn findObj mroIn looks_findIn looks_find looks_mroIn class_get KitX clsIn Frag)
end L2
namespace L2
open PySem PySem.Spec PySem.Calls PyProof.Rows
end L2
namespace L2
open PySem PySem.Spec PySem.Calls PyProof.Rows Mi
end L2
namespace Wb
open PySem L2 Mi
end Wb
namespace Wb
open PySem L2 Mi
open PySem.W (findIn findObj mroIn kitOne kitCls clsIn typeIn subIn specialIn takesIn Frag)
end Wb
namespace Wb
open PySem L2 Mi
end Wb
namespace L2
open PySem PySem.Spec PyProof.Rows
end L2
namespace Wb
open PySem L2 Mi
end Wb
namespace Mi
def eD{S:Type}(c:S->Res Bool)(f:S->Res S):Nat->S->Res S
 |0,_=>.stuck
 |n+1,s=>(c s).bind fun b=>if b then(f s).bind fun s'=>eD c f n s' else .ok s
end Mi
namespace Wb
open PySem L2 Mi
section
variable{Er:Nat->Prop}{K:DJ}{W0 W W':Wd}{p:Addr}{s:List Fr}{te:TE}{σ:St}{D:Ends}{i a b:Nat}{r:TS}{E:XK}
theorem uy{S:Type}{tc:TT}{tb:TS}{c:S->Res Bool}{f:S->Res S}{s0:S}{P:S->Prop}{n:Nat}(Iv:S->Wd->St->Prop)(q:(eD c f n s0).OkE Er P)(h0:Iv s0 W σ)
  (hm:∀W1 W2 s σ1,Ext W1 W2->Iv s W1 σ1->Iv s W2 σ1)
  (hc:∀W1 s σ1,Same W.G W1.G->Iv s W1 σ1->TV Er tc σ1 W1 (c s))
  (hs:∀Wb W1 s σ1 P',Same W.G W1.G->Same Wb.G W1.G->Iv s W1 σ1->(f s).OkE Er P'->tb {D with nx:=oi Wb Iv P',ct:=oi Wb Iv P',bk:=D.nx} σ1 W1.H)
  (hd:∀s W1 σ1,Same W.G W1.G->Iv s W1 σ1->P s->D.nx σ1 W1.H):oq tc tb D σ W.H:=by
 refine⟨fun m σ' H'=>∃s' W',W'.H=H'/\Same W.G W'.G/\Iv s' W' σ'/\(eD c f m s').OkE Er P,⟨n,s0,W,rfl,.refl _,h0,q⟩,?_⟩;rintro m σ1 H1 ⟨s,W1,rfl,e1,iv,k⟩;cases m with
 |zero=>exact k.elim
 |succ m=>
  refine hc W1 s σ1 e1 iv W1 (.refl _) _<|(DE k).imp fun b kb W2 e2=>?_;cases b with
  |true=>
   refine⟨oi W Iv fun s'=>(eD c f m s').OkE Er P,fun σ' H'⟨s',W',z1,z2,z3,z4⟩=>⟨m,HF _,s',W',z1,z2,z3,z4⟩,?_⟩;exact hs W W2 s σ1 _ (e1.trans e2.g) (e1.trans e2.g) (hm W1 W2 s σ1 e2 iv)<|DE kb
  |false=>exact hd s W2 σ1 (e1.trans e2.g) (hm W1 W2 s σ1 e2 iv) kb
section
variable{r:TS}
theorem jU{S:Type}{tc:TT}{tb:TS}{c:S->Res Bool}{f:S->Res S}{s0:S}{P:S->Prop}{n:Nat}(Iv:S->Wd->St->Prop)(q:(eD c f n s0).OkE Er P)(h0:Iv s0 W σ)
  (hm:∀W1 W2 s σ1,Ext W1 W2->Iv s W1 σ1->Iv s W2 σ1)
  (hc:∀W1 s σ1,Same W.G W1.G->Iv s W1 σ1->TV Er tc σ1 W1 (c s))
  (hs:∀Wb W1 s σ1 P',Same W.G W1.G->Same Wb.G W1.G->Iv s W1 σ1->(f s).OkE Er P'->tb {D with nx:=oi Wb Iv P',ct:=oi Wb Iv P',bk:=r D} σ1 W1.H)
  (hd:∀s W1 σ1,Same W.G W1.G->Iv s W1 σ1->P s->r D σ1 W1.H):iF (oq tc tb) r D σ W.H:=uy (D:={D with nx:=r D}) Iv q h0 hm hc hs hd
end
end
end Wb
namespace L2
open PySem PySem.Spec PyProof.Rows
end L2
namespace Wb
open PySem L2 Mi
section
variable{Er:Nat->Prop}{α β:Type}{K:DJ}{W W0:Wd}{p:Addr}{ta tb te:TE}{σ:St}{D:Ends}{i:Nat}{r:TS}{base:Heap}
theorem LR.rev{R:Rp α}{H:Hp}{as:List α}{vs:List V}(h:LR R H as vs):LR R H as.reverse vs.reverse:=⟨by simp[h.1],fun i v m q1 q2=>by
 have hi:i<vs.length:=by have:=(DR.mp q1).1;simpa using this
 rw[Gx hi]at q1;rw[Gx (by rw[<-h.1];exact hi),<-h.1]at q2;exact h.2 _ v m q1 q2⟩
theorem wX{R:Rp α}[Mono R]{ma:Res (List α)}(ha:EV Er ta σ W (pk R) ma):EVo Er (tY K ta<|tH<|Bu (rU fun i=>.int<|-i)<|tC<|.int 1) σ W R (ma.bind fun a=>.ok a.reverse):=fun W1 e1 Q k=>
 ha W1 e1 _ ((DE k).imp fun a ka x W2 e2 hx=>by
  obtain⟨p,vs,rfl,h1,h2⟩:=hx;refine⟨1,rfl, -1,rfl,p,vs,rfl,rfl,Gk h1,fun q hq=>ka q (W2.mut q (.lst vs.reverse) (W2.gnone hq)) (e2.trans (.own _ hq)) (aR e2.h hq) ⟨W2.gnone hq,_,aI,LR.rev h2⟩⟩)
end
end Wb
namespace L2
open PySem PySem.Spec PySem.Calls PyProof.Rows Mi
end L2
namespace Wb
open PySem L2 Mi
section
variable{Er:Nat->Prop}{α β γ:Type}{K:DJ}{W Wq W0:Wd}{p:Addr}{t t1 ta tb te:TE}{σ:St}{D:Ends}{i j:Nat}{r:TS}{Hb:Hp}{E:XK}
theorem uz{R1:Rp α}{R2:Rp β}{R3:Rp γ}{ma:Res (α×β×γ)}(ha:EV Er ta σ W (sh<|isT3 K R1 R2 R3) ma):EV Er (mS (fun xs H Q=>∃x n,xs=[x]/\oB K x H n/\Q (.int n) H)<|aL ta bV) σ W (sh isI) (ma.bind fun _=>.ok (3:Int)):=fun W1 e1 Q k=>
 ha W1 e1 _ ((DE k).imp fun a ka x W2 e2 hx=>by
  obtain⟨p,x,y,z,rfl,h,_⟩:=hx;exact⟨_,3,rfl,.inr ⟨_,Fm W2.ok h,rfl⟩,ka _ W2 e2 rfl⟩)
end
end Wb
namespace L2
open PySem PySem.Spec PyProof.Rows
end L2
namespace Wb
open PySem L2 Mi
end Wb
namespace L2
open PySem PySem.Spec PyProof.Rows
end L2
namespace Wb
open PySem L2 Mi
end Wb
namespace Mi
end Mi
namespace Wb
open PySem L2 Mi
end Wb
namespace L2
open PySem PySem.Spec PyProof.Rows
noncomputable def dA(tg iter:Expr)(ifs:List Expr)(body:Sem Unit)(it:DM)(env:Env)(c:Code):Sem Fin:=do
 standAt iter.pos
 match <-pyNext it with
 |none=>pure<|.done .next
 |some v=>
  letOwnedTupleGo tg it v
  assign tg env v
  let mut ok:=true
  for c in ifs do
   if ok then ok <-isTrue c env (eval c env)
  if ok then body
  again c
structure CompE(e:Expr):Prop where
 a:∀(A:EB)(d:Nat)(it acc:DM)(env:Env),A.under (.compLoop e d it acc env)=A
 b:∀(A:EB)(d:Nat)(it acc:DM)(env:Env),A.under (.compStart e d it acc env)=A
 c:∀(prog:E4)(w:E8)(d:Nat)(it acc:DM)(env:Env),(model prog w).den (.compLoop e d it acc env)=(compTurn e d it acc env).onRaise (fun x=>do noteFrame x env;theTreesLotGoes x)
 d:∀(prog:E4)(w:E8)(d:Nat)(it acc:DM)(env:Env),(model prog w).den (.compStart e d it acc env)=(compStart e d it acc env).onRaise (fun x=>do noteFrame x env;standAt theWindowsPlace)
theorem CompE.dict{k v:Expr}{gs:List JC}{sc:Hi}{pos:Pos}:CompE (.DictComp k v gs sc pos):=⟨fun _ _ _ _ _=>rfl,fun _ _ _ _ _=>rfl,fun _ _ _ _ _ _=>rfl,fun _ _ _ _ _ _=>rfl⟩
theorem CompE.set{k:Expr}{gs:List JC}{sc:Hi}{pos:Pos}:CompE (.SetComp k gs sc pos):=⟨fun _ _ _ _ _=>rfl,fun _ _ _ _ _=>rfl,fun _ _ _ _ _ _=>rfl,fun _ _ _ _ _ _=>rfl⟩
section
variable{prog:E4}{w:E8}{A:EB}{R:M4->DN->Prop}{s:DN}
theorem kP{e:Expr}(ce:CompE e){d:Nat}{tg iter:Expr}{ifs:List Expr}{it acc:DM}{env:Env}{body:Sem Unit}(ht:compTurn e d it acc env=dA tg iter ifs body it env (.compLoop e d it acc env))(I:Nat->DN->Prop)
  (turn:∀n s,I n s->wpAny (model prog w) A (pyNext it) (fun r s₁=>match r with
   |none=>R (.ok .next) s₁
   | some v=>wpAny (model prog w) A (letOwnedTupleGo tg it v) (fun _ s₁'=>wpAny (model prog w) A (assign tg env v) (fun _ s₂=>
     wpAny (model prog w) A (forIn ifs true fun c r=>if r=true then do let ok <-isTrue c env (eval c env);pure (Et ok)else pure (Et r)) (fun ok s₃=>
      if ok=true then wpAny (model prog w) A body (fun _ s₅=>∃m,m<n/\I m s₅) (fun _ _=>False) s₃
      else ∃m,m<n/\I m s₃) (fun _ _=>False) s₂) (fun _ _=>False) s₁') (fun _ _=>False) s₁) (fun _ _=>False) s)
  (n:Nat) (h:I n s):codeAny (model prog w) A (.compLoop e d it acc env) R s:=by
 refine codeAny_loop rfl I (fun n s hI=>?_) n h;rw[ce.a,ce.c];refine wpAny_noted ?_;rw[ht];unfold dA;refine DF<|Gq<|DF<|F5 (turn n s hI) (fun r s₁ h₁=>?_) fun _ _ h'=>h'.elim;cases r with
 |none=>exact DL h₁
 |some v=>
  refine DF<|F5 h₁ (fun _ s₁' h₁'=>?_) fun _ _ h'=>h'.elim;refine DF<|F5 h₁' (fun _ s₂ h₂=>DF<|F5 h₂ (fun ok s₃ h₃=>?_) fun _ _ h'=>h'.elim) fun _ _ h'=>h'.elim;cases ok with
  |true=>
   rw[if_pos rfl]at h₃;exact DF<|F5 h₃ (fun _ s₄ h₄=>DL ⟨rfl,h₄⟩) fun _ _ h'=>h'.elim
  |false=>
   rw[if_neg E3]at h₃;exact DL ⟨rfl,h₃⟩
theorem gK{e:Expr}(ce:CompE e){d:Nat}{g:JC}{it acc:DM}{env:Env}(hg:(clausesOf e)[d]? =some g)(ha:g.is_async=0)
  (h0:codeAny (model prog w) A (.compLoop e d it acc env) R s)
  (h:wpAny (model prog w) A (pyIter it) (fun it' s'=>codeAny (model prog w) A (.compLoop e d it' acc env) R s') (notedBy (model prog w) A env fun x s'=>R (.error x) s') s):
  codeAny (model prog w) A (.compStart e d it acc env) R s:=by
 refine codeAny_of_tree ?_;rw[ce.b,ce.d];refine wpAny_notedAt ?_;unfold compStart;rw[hg];simp only[Option.elim_some,ha,bne_self_eq_false,ED,if_false];refine DF<|GU<|wpAny_ite ?_;split
 ·first
   |exact DF<|DL<|DL<|LA rfl h0
   |exact DL<|LA rfl h0
 ·first
   |exact DF<|G6<|DF<|Gq<|DF<|F5 h (fun it' s' h'=>DL<|LA rfl h') fun _ _ x=>x
   |(refine DF<|G6 ?_;exact DF<|Gq<|DF<|F5 h (fun it' s' h'=>DL<|LA rfl h') fun _ _ x=>x)
end
noncomputable def yw(kx vx:Expr)(env:Env)(acc:DM):Sem Unit:=do
        let kv <-eval kx env
        let vv <-holding [kv] (eval vx env)
        match acc with
        | .ref d => do
          standAt {kx.pos with endLine:=vx.pos.endLine,endCol:=vx.pos.endCol}
          holding [kv,vv] (dictSet d kv vv)
        |_=>unsupported "internal:dictcomp"
noncomputable def wY(iter:Expr)(e:Expr)(d:Nat)(env:Env)(acc:DM):Sem Unit:=do
        let x <-eval iter env
        standAt iter.pos
        let x <-foldedSetIterable iter env x
        let _ <-runOwn (.compStart e d (<-holding [x] (pyIter x)) acc env) env
abbrev TB:=Addr->St->Hp->(Hp->Prop)->Prop
def PB(Y:Cx)(body:DM->Sem Unit)(tb:TB):Prop:=∀(D:Addr)(pins:List (Addr×Obj))(s:DN)(σ:St)(H:Hp)(N:Hp->Prop),Inv Y pins σ H s->tb D σ H N->
 wpAny (model Y.prog Y.w) Y.A (body<|.ref D) (fun _ s'=>∃σ' H',Inv Y pins σ' H' s'/\(∀(j:Nat)(v:V),σ[j]? =some (some v)->σ'[j]? =some (some v))/\N H') (fun _ _=>False) s
def rQ(g:TG)(tf:TT)(tb:TB)(D:Addr)(σ:St)(H1:Hp)(N:Hp->Prop)(J:It):Prop:=∃W:Nat->Nat->Hp->Prop,(∃m,W 0 m H1)/\∀i m H,W i m H->
 ((J.stop i H/\N H)\/(J.go i H/\∃M:Hp->Prop,(∀H',M H'->∃m',m'<m/\W (i+1) m' H')/\∀x H',J.yld i H x H'->g x σ H' fun σ2 H2=>Keep σ σ2/\tf σ2 H2 fun b H3=>if b=true then tb D σ2 H3 M else M H3))
def zz(wi:TI)(g:TG)(tf:TT)(tb:TB):TB:=fun D σ H N=>wi σ H fun J H1=>rQ g tf tb D σ H1 N J
section
variable{Y:Cx}{tg iter elt kx vx:Expr}{ifs:List Expr}{g:TG}{tf:TT}{tb:TB}{body:DM->Sem Unit}{te tk tv:TE}{wi:TI}
theorem nA(hc:Y.calm=true)(hxe:Y.xe=fun _ _=>False)(hg:PG Y tg g)(hf:sW Y ifs tf)(hb:PB Y body tb){e:Expr}(ce:CompE e){d:Nat}{it:Addr}{fp:List Addr}{tn:Nat->Heap->Prop}{J:It}(T:Turn Y.prog Y.w Y.K tg J fp it tn)
  {pins:List (Addr×Obj)} {s:DN} {σ:St} {H:Hp} {D:Addr} {N:Hp->Prop} {R:M4->DN->Prop} (I:Inv Y pins σ H s) (st:tn 0 s.heap) (f:∀b∈fp,FpOk Y pins H b) (w:rQ g tf tb D σ H N J)
  (ht:compTurn e d (.ref it) (.ref D) Y.env=dA tg iter ifs (body<|.ref D) (.ref it) Y.env (.compLoop e d (.ref it) (.ref D) Y.env))
  (fin:∀σ' H' s',Inv Y pins σ' H' s'->(∀(j:Nat)(v:V),σ[j]? =some (some v)->σ'[j]? =some (some v))->N H'->R (.ok .next) s'):
  codeAny (model Y.prog Y.w) Y.A (.compLoop e d (.ref it) (.ref D) Y.env) R s:=by
 obtain⟨W,⟨m0,w0⟩,turn⟩:=w;have stat:∀{H':Hp},(∀b∈fp,H' b=none)->∀b∈fp,FpOk Y pins H' b:=fun hn b hb=>⟨hn b hb,(f b hb).2⟩
 refine kP ce ht (fun n s'=>∃i σ' H',Inv Y pins σ' H' s'/\tn i s'.heap/\(∀b∈fp,H' b=none)/\(∀(j:Nat)(v:V),σ[j]? =some (some v)->σ'[j]? =some (some v))/\W i n H') ?_ m0 ⟨0,σ,H,I,st,fun b hb=>(f b hb).1,fun _ _ e=>e,w0⟩;rintro n s3 ⟨i,σ3,H3,I3,st3,fr3,kp,w3⟩;rcases turn i n H3 w3 with⟨stop,qn⟩|⟨go,M,hM,step⟩
 ·refine bG (T.done Y rfl rfl rfl hc i pins s3 σ3 H3 _ I3 (stat fr3) st3 stop) fun r s4 zz=>?_;obtain⟨hr,I4⟩:=zz;subst hr;exact fin σ3 H3 s4 I4 kp qn
 ·have I3':Inv Y pins σ H3 s3:=I3.weak (by rw[I3.len,I.len]) kp;refine bG (T.item Y rfl rfl rfl hc i pins s3 σ H3 _ I3' (stat fr3) st3 go) fun r s4 zz=>?_;obtain⟨u,hr,h4⟩:=zz;subst hr;refine bG h4 fun _ s5 zz=>?_;obtain⟨x,H5,I5,r5,y5,st5,fr5⟩:=zz;have I5':=I5.pinned (stat fr5)<|T.obj _ _ st5;have hg':=hg _ s5 σ H5 x u _ I5' r5<|step x H5 y5;rw[hxe]at hg';refine bG hg' fun _ s6 zz=>?_;obtain⟨σ6,H6,I6,kp6,q6⟩:=zz;have hf':=hf _ s6 σ6 H6 _ I6 q6;rw[hxe]at hf';refine bG hf' fun ok s7 zz=>?_;obtain⟨H7,I7,q7⟩:=zz;have again:∀{s8:DN}{σ7:St}{H7:Hp},Inv Y (pins++iI fp s5.heap) σ7 H7 s8->(∀(j:Nat)(v:V),σ6[j]? =some (some v)->σ7[j]? =some (some v))->M H7->∃m,m<n/\∃i σ' H',Inv Y pins σ' H' s8/\tn i s8.heap/\(∀b∈fp,H' b=none)/\(∀(j:Nat)(v:V),σ[j]? =some (some v)->σ'[j]? =some (some v))/\W i m H':=fun{s8 σ7 H7}I7 k7 n7=>by
   obtain⟨m',hm,w7⟩:=hM H7 n7;refine⟨m',hm,i+1,σ7,H7,I7.unpinned,T.keep _ _ _ st5 fun b hb o e=>(I7.pin (b,o)<|Eo _<|Eo _<|dY hb e).1,fun b hb=>?_,fun j v e=>k7 j v<|Keep.get kp6 e,w7⟩;obtain⟨o,e,d⟩:=T.obj _ _ st5 b hb;exact(I7.pin (b,o)<|Eo _<|Eo _<|dY hb e).2.1
  cases ok with
  |false=>
   rw[if_neg E3]at q7 ⊢;exact again I7 (fun _ _ e=>e) q7
  |true=>
   rw[if_pos rfl]at q7 ⊢;refine bG (hb D _ s7 σ6 H7 _ I7 q7) fun _ s8 zz=>?_;obtain⟨σ8,H8,I8,k8,q8⟩:=zz;exact again I8 k8 q8
theorem zA(hc:Y.calm=true)(hxe:Y.xe=fun _ _=>False)(hi:PI Y tg iter wi)(hg:PG Y tg g)(hf:sW Y ifs tf){body:Env->DM->Sem Unit}(hb:PB Y (body Y.env) tb){e:Expr}(ce:CompE e){d:Nat}(hcl:(clausesOf e)[d]? =some ⟨tg,iter,ifs,0⟩)
  (ht:∀env it acc,compTurn e d it acc env=dA tg iter ifs (body env acc) it env (.compLoop e d it acc env):=by intro _ _ _;rfl) (hs:∀x,foldedSetIterable iter Y.env x=pure x:=by intro _;rfl):
  PB Y (wY iter e d Y.env) (zz wi g tf tb):=by
 intro D pins s σ H N I h;have hi':=hi pins s σ H _ I h;rw[hxe]at hi';refine DF<|bG hi' fun v s1 h1=>DF<|Gq<|DF<|Kv (hs v)<|DF<|Fz<|bG h1 fun itv s2 h2=>?_;obtain⟨it,fp,tn,J,H2,rfl,I2,T,st2,f2,w⟩:=h2;have lp:codeAny (model Y.prog Y.w) Y.A (.compLoop e d (.ref it) (.ref D) Y.env) (fun r s'=>match r with| .ok f=>(∃σ' H',Inv Y pins σ' H' s'/\(∀(j:Nat)(v:V),σ[j]? =some (some v)->σ'[j]? =some (some v))/\N H')| .error x=>cameBackBy (model Y.prog Y.w) Y.A Y.env (fun _ _=>False) x s') s2:=
  nA hc hxe hg hf hb ce T I2 st2 f2 w (ht _ _ _) fun σ' H' s' I' k' n'=>⟨σ',H',I',k',n'⟩
 refine DF<|wpAny_runOwn<|gK ce hcl rfl ?_ ?_
 ·exact IX lp fun r s' h=>by
   cases r with
   |ok f=>exact DL h
   |error x=>exact h
 ·refine T.self _ 0 _ _ _ st2 (IX lp fun r s' h=>by
   cases r with
   |ok f=>exact DL h
   |error x=>exact h)
end
section
variable{X:Cx}{scope:Hi}{N:List Str}{cap:List (Option Nat)}{tg iter:Expr}{ifs:List Expr}{pos:Pos}{wi:TI}{g:TG}{tf:TT}{tb:TB}{body:Env->DM->Sem Unit}
theorem lb{pins:List (Addr×Obj)}{σ σ':St}{H2 H':Hp}{s2 s':DN}{fp:List Addr}{C:Addr}{h':Heap}(I2:Inv X pins σ H2 s2)(f2:∀b∈fp,FpOk X pins H2 b)
  (hC:s2.heap.objs.size<=C) (I':Inv (aH X scope N s2 H2 C fp) [] σ' H' s') (hs:E6 C s'.heap h'):Inv X pins σ H' {s' with heap:=h'}:=by
 have nC:H' C=none:=I'.free;have lt2:∀b o,s2.heap.get? b=some o->b≠C:=fun b o e=>Ed<|DV (DW e) hC;have hk:∀b o,b≠C->s'.heap.get? b=some o->h'.get? b=some o:=fun b o hb e=>(hs.2 b hb).trans e;have B:Un (frs X.stack) fp H2 H' s2.heap s'.heap:=I'.base;have tr:∀b u,H' b=some u->b≠C:=fun b u e z=>by rw[z,nC]at e;cases e
 refine I2.call' (ch:=fp) I'.os ⟨fun b o e n hb hx=>?_,fun b o e n hb hx=>?_,fun b o e n hx=>?_,fun b o e hx=>?_,fun b xs e=>?_,fun b o u e=>?_,fun b ps e=>?_⟩ (fun b u e=>?_) I'.bare fun b hb=>⟨(f2 b hb).2.2.2.1,(f2 b hb).2.1,(f2 b hb).2.2.2.2.1,(f2 b hb).2.2.2.2.2⟩
 ·exact hk b o (lt2 b o e)<|B.keep b o e n hb hx
 ·obtain⟨sl,q⟩:=B.slot b o e n hb hx;exact⟨sl,hk b _ (lt2 b o e) q⟩
 ·exact B.free b o e n hx
 ·obtain⟨o',q⟩:=B.there b o e hx;exact⟨o',hk b _ (lt2 b o e) q⟩
 ·exact B.tups b xs e
 ·exact B.frzs b o u e
 ·exact B.tbls b ps e
 ·refine(I'.hok b u e).stay (fun c w' hc q=>hk c w' ?_ q) (fun c q=>q) fun c xs q=>q;rcases hc with z|z
  ·rw[z];exact tr b u e
  ·exact tr c _ z
theorem jV(S:CompScope X scope N cap)(hc:X.calm=true){e:Expr}(ce:CompE e)(hcl:(clausesOf e)[0]? =some ⟨tg,iter,ifs,0⟩)
    (hg:∀s H C fp,PG (aH X scope N s H C fp) tg g) (hf:∀s H C fp,sW (aH X scope N s H C fp) ifs tf) (hb:∀s H C fp,PB (aH X scope N s H C fp) (body (aH X scope N s H C fp).env) tb)
    (ht:∀env it acc,compTurn e 0 it acc env=dA tg iter ifs (body env acc) it env (.compLoop e 0 it acc env))
    {pins:List (Addr×Obj)} {σ:St} {H3:Hp} {s3:DN} {it D:Addr} {fp:List Addr} {tn:Nat->Heap->Prop} {J:It} {Qv:Hp->Prop} {E:DM->DN->Prop} {RR:Addr->M4->DN->Prop}
    (I3:Inv X pins σ H3 s3) (T:Turn X.prog X.w X.K tg J fp it tn) (st3:tn 0 s3.heap) (f3:∀b∈fp,FpOk X pins H3 b) (w:rQ g tf tb D (bh cap σ) H3 Qv J)
    (fin:∀(C:Addr)(σ':St)(H':Hp)(s':DN),s3.heap.objs.size<=C->Inv (aH X scope N s3 H3 C fp) [] σ' H' s'->Qv H'->RR C (.ok .next) s'):
    wpAny (model X.prog X.w) X.A (newFunctionEnv scope X.env.globals (bQ X.env scope.names []) [] X.env.qual none .none<|some X.env) (fun cenv s₄=>
      codeAny (model X.prog X.w) X.A (.compStart e 0 (.ref it) (.ref D) {cenv with scope:=relabel scope X.env}) (RR cenv.locals) s₄) E s3:=by
  refine jD ?_;generalize hC:s3.heap.objs.size=C;generalize hH4:pushCells (s3.heap.push {cls:=.type "dict",data:=.dict #[]}) scope.names=h4;have hz3':(s3.heap.push {cls:=.type "dict",data:=.dict #[]}).objs.size=C+1:=by rw[EX,hC]
  have ck:MX h4 (C+1) (cellsFrom (C+1) scope.names []):=by
    have:=cellsFrom_ok scope.names (s3.heap.push {cls:=.type "dict",data:=.dict #[]}) (C+1) [] ⟨fun _ _ hm=>(nomatch hm),Hn⟩ (by rw[hz3'];exact DQ _);rw[hz3',hH4]at this;exact this
  have k34:∀b o,s3.heap.get? b=some o->h4.get? b=some o:=fun b o e=>by rw[<-hH4];exact IL _ _ b o<|DH _ e
  have hn4:h4.Ns C fun _=>none:=by
    rw[<-hH4,<-hC];exact(Ni s3.heap<|.type "dict").keeps (IL _ _)
  have hlt:∀b∈fp,b<C:=fun b hb=>by
    obtain⟨o,e,_⟩:=T.obj _ _ st3 b hb;rw[<-hC];exact DW e
  have hCs:s3.heap.objs.size<=C:=by rw[hC];exact DQ _
  have IC:Inv (aH X scope N s3 H3 C fp) [] (bh cap σ) H3 {s3 with heap:=h4}:=
    jE S I3 hCs ck f3 hlt ⟨_,_,rfl⟩ hn4 fun b o e=>k34 b o e
  have okC:=IC.ok;have fO:∀b∈fp,FpOk (aH X scope N s3 H3 C fp) [] H3 b:=fun b hb=>
    ⟨(f3 b hb).1,Ed<|hlt b hb,okC.exfs b hb,.inl hb,(okC.exf b hb).2,fun p hp=>by
      have:p∈([]:List (Addr×Obj)):=hp;cases this⟩
  have st4:tn 0 h4:=T.keep _ _ _ st3 fun b hb o e=>k34 b o e;have loop:codeAny (model X.prog X.w) X.A (.compLoop e 0 (.ref it) (.ref D) (aH X scope N s3 H3 C fp).env) (RR C) {s3 with heap:=h4}:=
    nA (Y:=aH X scope N s3 H3 C fp) hc rfl (hg _ _ _ _) (hf _ _ _ _) (hb _ _ _ _) ce T IC st4 fO w (ht _ _ _) fun σ' H' s' I' _ q=>fin C σ' H' s' hCs I' q
  exact gK ce hcl rfl loop<|T.self _ 0 _ _ _ st4 loop
theorem rR{it acc:DM}{env:Env}{e iter2:Expr}{d:Nat}{c:Code}:dA tg iter ifs (wY iter2 e d env acc) it env c=(do
 standAt iter.pos
 match <-pyNext it with
 |none=>pure (.done .next)
 |some v=>
  letOwnedTupleGo tg it v
  assign tg env v
  let mut ok:=true
  for c in ifs do
   if ok then ok <-isTrue c env (eval c env)
  if ok then
    let x <-eval iter2 env
    standAt iter2.pos
    let x <-foldedSetIterable iter2 env x
    let _ <-runOwn (.compStart e d (<-holding [x] (pyIter x)) acc env) env
  again c):=by
 unfold dA wY;simp only[bind_assoc,pure_bind]
 all_goals rfl
variable{kx vx elt tg2 iter2 tg3 iter3:Expr}{ifs2 ifs3:List Expr}{wi2 wi3:TI}{g2 g3:TG}{tf2 tf3:TT}{te tk tv:TE}{mk:HO}
end
end L2
open L2.CompE renaming set->NR
namespace Wb
open PySem L2 Mi
section
variable{Er:Nat->Prop}{α β γ S:Type}{K:DJ}{W W' W0 Wb W1 W2:Wd}{σ:St}{t ta tb te ti tk tv:TE}{i:Nat}{O:Wd->Addr->S->Prop}
theorem uA{t:TB}{D:Addr}{H:Hp}{M:Hp->Prop}(h:t D σ H M):zj σ H fun b H3=>if b=true then t D σ H3 M else M H3:=by
 show(if true=true then t D σ H M else M H);rw[if_pos rfl];exact h
def BV(Er:Nat->Prop)(t:TB)(σ:St)(Wb W:Wd)(O:Wd->Addr->S->Prop)(D:Addr)(m:S->Res S):Prop:=∀W1 s(N:Hp->Prop),Ext W W1->O W1 D s->(m s).OkE Er (fun s'=>∀W',Same W1.G W'.G->Ext Wb W'->O W' D s'->N W'.H)->t D σ W1.H N
theorem lY{R:Rp α}{J:It}{xs:List α}{g:TG}{tf:TT}{t:TB}{f:α->S->Res S}{D:Addr}{N:Hp->Prop}{s0:S}(hy:Yl J W R xs)(h0:Ext W W1\/Same W.G W1.G)(eb:Ext Wb W1)(o:O W1 D s0)
  (hs:∀W2 a v s(M:Hp->Prop),Same W.G W2.G->Ext Wb W2->O W2 D s->R W2.G a v->(f a s).OkE Er (fun s'=>∀W',Same W2.G W'.G->Ext Wb W'->O W' D s'->M W'.H)->g v σ W2.H fun σ2 H2=>Keep σ σ2/\tf σ2 H2 fun b H3=>if b=true then t D σ2 H3 M else M H3)
  (mono:∀W W' s,Ext W W'->O W D s->O W' D s)
  (k:(bB f xs s0).OkE Er fun s'=>∀W',Same W.G W'.G->Ext Wb W'->O W' D s'->N W'.H):rQ g tf t D σ W1.H N J:=by
 have hs1:Same W.G W1.G:=h0.elim (fun e=>e.g) id;refine⟨fun i n H=>n=xs.length-i/\i<=xs.length/\∃(W3:Wd)(s:S),W3.H=H/\Same W.G W3.G/\Ext Wb W3/\O W3 D s/\(bB f (xs.drop i) s).OkE Er fun s'=>∀W',Same W.G W'.G->Ext Wb W'->O W' D s'->N W'.H,⟨xs.length,by simp,by simp,W1,s0,rfl,hs1,eb,o,by simpa using k⟩,?_⟩;rintro i n H ⟨rfl,hi1,W3,s,rfl,e3,eb3,o3,q⟩;by_cases hlt:i<xs.length
 ·obtain⟨a,ha⟩:∃a,xs[i]? =some a:=⟨xs[i],by simp[hlt]⟩
  obtain⟨h1,h2⟩:=(hy W3 e3).1 i a ha;refine .inr ⟨h1,fun H'=>∃(W3:Wd)(s:S),W3.H=H'/\Same W.G W3.G/\Ext Wb W3/\O W3 D s/\(bB f (xs.drop<|i+1) s).OkE Er fun s'=>∀W',Same W.G W'.G->Ext Wb W'->O W' D s'->N W'.H,fun H' z=>⟨xs.length-(i+1),by omega,rfl,hlt,z⟩,fun x H' hx=>?_⟩;obtain⟨W4,rfl,e4,rx⟩:=h2 x H' hx;rw[l7 ha]at q;exact hs W4 a x s _ (e3.trans e4.g) (eb3.trans e4) (mono _ _ _ e4 o3) rx<|(DE q).imp fun s' ks W' z1 z2 z3=>⟨W',s',rfl,(e3.trans e4.g).trans z1,z2,z3,ks⟩
 ·have e:i=xs.length:=by omega
  subst e;rw[GS]at q;exact .inl ⟨(hy W3 e3).2,q W3 e3 eb3 o3⟩
theorem zB{R:Rp α}{wi:TI}{g:TG}{tf:TT}{t:TB}{mi:Res (List α)}{f:α->S->Res S}{D:Addr}(eb:Ext Wb W)(hi:IV Er wi σ W R mi)(mono:∀W W' s,Ext W W'->O W D s->O W' D s)
  (hs:∀W2 a v s(M:Hp->Prop),Same W.G W2.G->Ext Wb W2->O W2 D s->R W2.G a v->(f a s).OkE Er (fun s'=>∀W',Same W2.G W'.G->Ext Wb W'->O W' D s'->M W'.H)->g v σ W2.H fun σ2 H2=>Keep σ σ2/\tf σ2 H2 fun b H3=>if b=true then t D σ2 H3 M else M H3):
  BV Er (zz wi g tf t) σ Wb W O D (fun s=>mi.bind fun xs=>bB f xs s):=fun W1 s N e1 o k=>
 hi W1 e1 _ ((DE k).imp fun xs kx J W2 e2 hy=>lY (W:=W2) (Wb:=Wb) hy (.inl<|.refl _) ((eb.trans e1).trans e2) (mono _ _ _ e2 o) (fun W3 a v s M e3 eb3 o3 r k3=>hs W3 a v s M ((e1.trans e2).g.trans e3) eb3 o3 r k3) mono<|kx.imp fun s' ks W' z1 z2 z3=>ks W' (e2.g.trans z1) z2 z3)
end
end Wb
namespace Mi
end Mi
namespace Wb
open PySem L2 Mi
end Wb
namespace Mi
end Mi
namespace Wb
open PySem L2 Mi
section
open PyProof PyProof.Rows
variable{X:Cx}{pos:Pos}
end
end Wb
namespace Mi
end Mi
namespace Wb
open PySem L2 Mi
end Wb
namespace Mi
end Mi
namespace Wb
open PySem L2 Mi
end Wb
namespace L2
open PySem PySem.Spec PyProof.Rows
end L2
namespace L2
open PySem PySem.Spec PyProof.Rows Builtin Builtin.ObjectAttr
open PySem.W (findIn findObj mroIn looks_findIn looks_find looks_mroIn looks_clsIn clsIn Frag InstAt Looks)
end L2
namespace L2
open PySem PySem.Spec PySem.Calls PyProof.Rows
open PySem.W (findIn findObj mroIn looks_findIn looks_find looks_mroIn class_get KitX clsIn Frag InstAt lookIn)
def XO(a:Addr)(o:Obj):HO:=.ext fun h=>h.get? a=some o
section
variable{P:E4}{w:E8}{H:Hp}{h:Heap}{a d:Addr}{o:Obj}{fs:List (Str×V)}{mA:Str->Option DM}
theorem XO.ok(e:h.get? a=some o):ObjOk P w H h a (XO a o):=⟨e,⟨_,e⟩,fun _ _ p k=>k _ p⟩
end
end L2
open L2.XO renaming ok->Nm
namespace L2
open PySem PySem.Spec PySem.Calls PyProof.Rows
open PySem.W (findIn findObj clsIn Frag InstAt lookIn)
end L2
namespace Mi
end Mi
namespace Wb
open PySem L2 Mi
end Wb
namespace Mi
end Mi
namespace L2
open PySem PySem.Spec PyProof.Rows PySem.SeqAt PySem.AutoSeq1 PySem.MeetsSeq
end L2
namespace Wb
open PySem L2 Mi
section
variable{Er:Nat->Prop}{ta tb:TE}{σ:St}{W:Wd}{K:DJ}{m:Res (Tx×Tx×Tx)}{mb:Res Tx}
theorem uB(ha:EV Er ta σ W (sh<|isT3 K isS isS isS) m):EVo Er (mS (fun xs H Q=>∃p ys,xs=[.ref p]/\(SqL K H p ys\/SqT K H p ys)/\∀l,H l=none->Q (.ref l) (cn H l<|.lst ys))<|aL ta bV) σ W isS (m.bind fun x=>.ok [x.1,x.2.1,x.2.2]):=fun W1 e1 Q k=>
 ha W1 e1 _ ((DE k).imp fun x kx v W2 e2 hx=>by
  obtain⟨p,x1,x2,x3,rfl,ht,h1,h2,h3⟩:=hx;refine⟨p,_,rfl,.inr<|Fm W2.ok ht,fun l hl=>kx l (W2.mut l (.lst [x1,x2,x3])<|W2.gnone hl) (e2.trans<|.own _ hl) (aR e2.h hl) ⟨W2.gnone hl,_,aI,rfl,fun i v y q1 q2=>?_⟩⟩
  match i,q1,q2 with
  |0,q1,q2=>cases q1;cases q2;exact h1
  |1,q1,q2=>cases q1;cases q2;exact h2
  |2,q1,q2=>cases q1;cases q2;exact h3)
end
theorem wZ{X:Cx}{K:DJ}(h:X.K=K){tg l:Expr}{tl:TE}(hl:PE X l tl):PI X tg l (yY K tl):=h▸yZ hl
end Wb
namespace Mi
def zC(a b:Int×Int):Bool:=decide (a.1<b.1)||(decide (a.1=b.1)&&decide (a.2<=b.2))
theorem jk{a b:Int×Int}:zC a b=true↔a.1<b.1\/(a.1=b.1/\a.2<=b.2):=by unfold zC;simp
def eV(xs:List (Int×Int)):List (Int×Int):=xs.mergeSort zC
theorem dJ(xs:List (Int×Int)):(eV xs).Perm xs:=KG _ _
theorem jW(xs:List (Int×Int)):(eV xs).Pairwise (fun a b=>zC a b=true):=
 JM (le:=zC) (fun a b c h1 h2=>by rw[jk]at *;omega) (fun a b=>by simp only[LQ,jk];omega) xs
theorem jX{xs ys:List (Int×Int)}(h:ys.Perm xs)(hs:ys.Pairwise (fun a b=>zC a b=true)):ys=eV xs:=
 JB (le:=fun a b=>zC a b=true) (fun a b _ _ h1 h2=>by rw[jk]at *;exact J9 (by omega) (by omega)) hs (jW xs) (h.trans (dJ xs).symm)
def rS(ks:List (Int×Int))(k:Int×Int):Res (List<|Int×Int):=eJ (ks.length<1000) (if k∈ks then ks else k::ks)
def uC(ks:List (Int×Int)):Res (List<|Int×Int):=eJ (ks.length<=1000)<|eV ks
end Mi
namespace Wb
open PySem
theorem jY{xs:Array Nat}{j:Nat}(up:∀a b,a<b->b<xs.size->xs.getD a 0<xs.getD b 0):∀(f lo hi:Nat),hi-lo<=f->lo<=hi->hi<=xs.size->(∀a,a<lo->xs.getD a 0<j)->(∀a,hi<=a->a<xs.size->j<=xs.getD a 0)->
  Ho xs j f lo hi<=xs.size/\(∀a,a<Ho xs j f lo hi->xs.getD a 0<j)/\(∀a,Ho xs j f lo hi<=a->a<xs.size->j<=xs.getD a 0)
 |0,lo,hi,h,hl,hs,h1,h2=>by
  unfold Ho;exact⟨by omega,h1,fun a ha=>h2 a (by omega)⟩
 |f+1,lo,hi,h,hl,hs,h1,h2=>by
  unfold Ho;by_cases z:lo<hi
  ·rw[if_pos z];have hm:(lo+hi)/2<hi:=by omega
   have hm2:lo<=(lo+hi)/2:=by omega
   have e:∀d d':Nat,xs.getD ((lo+hi)/2) d=xs.getD ((lo+hi)/2) d':=fun d d'=>by
    simp[Gj,show(lo+hi)/2<xs.size by omega]
   dsimp only;generalize hM:(lo+hi)/2=m at*
   by_cases y:xs.getD m j<j
   ·rw[if_pos y];refine jY up f (m+1) hi (by omega) (by omega) hs (fun a ha=>?_) h2;by_cases q:a=m;·subst q;rw[e 0 j];exact y
    ·have:=up a m (by omega) (by omega);rw[e 0 j]at this;omega
   ·rw[if_neg y];refine jY up f lo m (by omega) hm2 (by omega) h1<|fun a ha hb=>?_;by_cases q:a=m;·subst q;rw[e 0 j];omega
    ·have:=up m a (by omega) hb;rw[e 0 j]at this;omega
  ·rw[if_neg z];exact⟨by omega,h1,fun a ha=>h2 a (by omega)⟩
def Up(xs:Array Nat):Prop:=∀a b,a<b->b<xs.size->xs.getD a 0<xs.getD b 0
theorem i9{xs:Array Nat}(up:Up xs)(j:Nat):Fp xs j<=xs.size/\(∀a,a<Fp xs j->xs.getD a 0<j)/\(∀a,Fp xs j<=a->a<xs.size->j<=xs.getD a 0):=by
 unfold Fp;exact jY up xs.size 0 xs.size (by omega) (by omega) (by omega) (fun a ha=>by omega) (fun a ha hb=>by omega)
abbrev Pr:=SetTable.Probe
def fM(mask:Nat)(p:Pr):Pr:=if p.more>0 then {p with j:=p.j+1,more:=p.more-1} else {p with j:=(Ep mask p.i p.perturb).1,more:=EJ mask (Ep mask p.i p.perturb).1-(Ep mask p.i p.perturb).1,i:=(Ep mask p.i p.perturb).1,perturb:=(Ep mask p.i p.perturb).2}
theorem jZ(t:Fb)(p:Pr):t.advance p=fM t.mask p:=by unfold SetTable.advance fM;rfl
def itM(mask:Nat):Nat->Pr->Pr
 |0,p=>p
 |n+1,p=>itM mask n<|fM mask p
theorem eW(mask:Nat):∀(a b:Nat)(p:Pr),itM mask (a+b) p=itM mask b (itM mask a p)
 |0,b,p=>by rw[Gp];rfl
 |a+1,b,p=>by rw[show a+1+b=(a+b)+1 by omega];exact eW mask a b<|fM mask p
theorem uD(mask n:Nat)(p:Pr):itM mask (n+1) p=fM mask (itM mask n p):=by rw[eW];rfl
def sY(mask i pt:Nat):Pr:={j:=i,more:=EJ mask i-i,i,perturb:=pt,dummy:=none}
theorem jl(mask:Nat):∀(n:Nat)(p:Pr),p.more=n->p.dummy=none->itM mask (n+1) p=sY mask (Ep mask p.i p.perturb).1 (Ep mask p.i p.perturb).2
 |0,p,h,hd=>by
  show fM mask p=_;unfold fM sY;rw[if_neg (by omega)];cases p;simp at hd;subst hd;rfl
 |n+1,p,h,hd=>by
  show itM mask (n+1) (fM mask p)=_;have e:fM mask p={p with j:=p.j+1,more:=p.more-1}:=by unfold fM;rw[if_pos (by omega)]
  rw[e];exact jl mask n _ (by show p.more-1=n;omega) hd
theorem ql(mask i:Nat):EJ mask i-i<=9:=by unfold EJ;split<;>omega
def mJ(mask:Nat):Nat->Nat×Nat->Nat×Nat
 |0,x=>x
 |n+1,x=>mJ mask n<|Ep mask x.1 x.2
theorem uE(mask:Nat):∀(n i pt:Nat),∃k,k<=10*n/\itM mask k (sY mask i pt)=sY mask (mJ mask n (i,pt)).1 (mJ mask n (i,pt)).2
 |0,i,pt=>⟨0,by omega,rfl⟩
 |n+1,i,pt=>by
  obtain⟨k,hk,e⟩:=uE mask n (Ep mask i pt).1 (Ep mask i pt).2;have r:=jl mask _ (sY mask i pt) rfl rfl;have m:=ql mask i;refine⟨(sY mask i pt).more+1+k,?_,?_⟩
  ·have:(sY mask i pt).more<=9:=m;omega
  ·rw[eW,r];exact e
theorem qm(mask:Nat):∀(a b:Nat)(x:Nat×Nat),mJ mask (a+b) x=mJ mask b (mJ mask a x)
 |0,b,x=>by rw[Gp];rfl
 |a+1,b,x=>by rw[show a+1+b=(a+b)+1 by omega];exact qm mask a b _
theorem uF(mask:Nat):∀(n:Nat)(x:Nat×Nat),(mJ mask n x).2=x.2/32^n
 |0,x=>by simp[mJ]
 |n+1,x=>by
  show(mJ mask n<|Ep mask x.1 x.2).2=_;rw[uF mask n];show x.2/32/32^n=_;rw[K0,Nat.pow_succ,Nat.mul_comm]
theorem zD(mask:Nat):∀(n:Nat)(x:Nat×Nat),x.1<=mask->(mJ mask n x).1<=mask
 |0,x,h=>h
 |n+1,x,h=>zD mask n _ (by show(x.1*5+1+x.2/32)%(mask+1)<=mask;have:=Ja (x.1*5+1+x.2/32) (show 0<mask+1 by omega);omega)
def wb(mask:Nat):Nat->Nat->Nat
 |0,i=>i
 |n+1,i=>wb mask n<|(i*5+1)%(mask+1)
theorem uG(mask:Nat):∀(n i:Nat),mJ mask n (i,0)=(wb mask n i,0)
 |0,i=>rfl
 |n+1,i=>by
  show mJ mask n (Ep mask i 0)=_;rw[show Ep mask i 0=((i*5+1)%(mask+1),0) by simp[Ep],uG mask n];rfl
theorem jm(mask:Nat):∀(a b i:Nat),wb mask (a+b) i=wb mask b (wb mask a i)
 |0,b,i=>by rw[Gp];rfl
 |a+1,b,i=>by rw[show a+1+b=(a+b)+1 by omega];exact jm mask a b _
def isMask(m:Nat):Prop:=m=7\/m=31\/m=127\/m=511\/m=2047
def A6(m:Nat):Nat->Nat->Nat->Nat
 |0,_,acc=>acc
 |n+1,i,acc=>A6 m n ((i*5+1)%(m+1))<|acc|||2^i
theorem qo(m:Nat):∀(n i acc e:Nat),(A6 m n i acc).testBit e=true->acc.testBit e=true\/∃k,k<n/\wb m k i=e
 |0,i,acc,e,h=>.inl h
 |n+1,i,acc,e,h=>by
  rcases qo m n _ _ e h with q|⟨k,hk,q⟩
  ·rw[Nat.testBit_or,LQ]at q;rcases q with q|q
   ·exact .inl q
   ·rw[Nat.testBit_two_pow,decide_eq_true_eq]at q;exact .inr ⟨0,by omega,q⟩
  ·exact .inr ⟨k+1,by omega,q⟩
theorem Cy{m:Nat}(h:isMask m):(∀e,e<m+1->∃k,k<m+1/\wb m k 0=e)/\wb m (m+1) 0=0:=by
 have key:∀m,A6 m (m+1) 0 0=2^(m+1)-1->∀e,e<m+1->∃k,k<m+1/\wb m k 0=e:=fun m hv e he=>by
  have hb:(A6 m (m+1) 0 0).testBit e=true:=by rw[hv,Nat.testBit_two_pow_sub_one];simpa using he
  rcases qo m _ _ _ e hb with q|q;·simp at q
  ·exact q
 rcases h with rfl|rfl|rfl|rfl|rfl;·exact⟨key 7 (by decide +kernel),by decide +kernel⟩
 ·exact⟨key 31 (by decide +kernel),by decide +kernel⟩
 ·exact⟨key 127 (by decide +kernel),by decide +kernel⟩
 ·exact⟨key 511 (by decide +kernel),by decide +kernel⟩
 ·exact⟨key 2047 (by decide +kernel),by decide +kernel⟩
theorem uH{m:Nat}(h:isMask m){i e:Nat}(hi:i<=m)(he:e<=m):∃n,n<=m/\wb m n i=e:=by
 obtain⟨h1,h2⟩:=Cy h;obtain⟨a,ha,ea⟩:=h1 i (by omega);obtain⟨b,hb,eb⟩:=h1 e (by omega);by_cases z:a<=b
 ·refine⟨b- a,by omega,?_⟩;rw[<-ea,<-jm,show a+(b-a)=b by omega,eb]
 ·refine⟨m+1- a+b,by omega,?_⟩;rw[<-ea,<-jm,show a+(m+1-a+b)=(m+1)+b by omega,jm,h2,eb]
theorem AS{m:Nat}(h:isMask m){p:Pr}(hd:p.dummy=none)(hm:p.more<=9)(hp:p.perturb<2^64){e:Nat}(he:e<=m):∃k,k<10*Fx m/\(itM m k p).j=e:=by
 have r:=jl m p.more p rfl hd;obtain⟨k1,hk1,e1⟩:=uE m 12 (Ep m p.i p.perturb).1 (Ep m p.i p.perturb).2;have z:(mJ m 12 ((Ep m p.i p.perturb).1,(Ep m p.i p.perturb).2)).2=0:=by
  rw[uF];show p.perturb/32/32^12=0;rw[K0];exact LB (by omega)
 have i0:(Ep m p.i p.perturb).1<=m:=by
  show(p.i*5+1+p.perturb/32)%(m+1)<=m;have:=Ja (p.i*5+1+p.perturb/32) (show 0<m+1 by omega);omega
 have i1:=zD m 12 ((Ep m p.i p.perturb).1,(Ep m p.i p.perturb).2) i0;rw[z]at e1;generalize (mJ m 12 ((Ep m p.i p.perturb).1,(Ep m p.i p.perturb).2)).1=i at*
 obtain⟨n,hn,en⟩:=uH h i1 he;obtain⟨k2,hk2,e2⟩:=uE m n i 0;rw[uG,en]at e2;refine⟨p.more+1+k1+k2,?_,?_⟩;·unfold Fx;omega
 ·rw[eW,eW,r,e1,e2];rfl
def InP(xs:Array Nat)(j:Nat):Prop:=∃a,a<xs.size/\xs.getD a 0=j
theorem nB{xs:Array Nat}{a:Nat}(h:a<xs.size):xs[a]? =some (xs.getD a 0):=by simp[Gj,h]
theorem gd{xs:Array Nat}(up:Up xs){a:Nat}(h:a<xs.size):Fp xs (xs.getD a 0)=a:=by
 obtain⟨h0,h1,h2⟩:=i9 up<|xs.getD a 0;generalize Fp xs (xs.getD a 0)=b at*
 by_cases z:a<b;·have:=h1 a z;omega
 ·by_cases y:b< a
  ·have:=up b a y h;have:=h2 b (by omega) (by omega);omega
  ·omega
theorem rV{xs:Array Nat}(up:Up xs){j:Nat}(h:¬InP xs j):(xs[Fp xs j]? ==some j)=false:=by
 obtain⟨h0,h1,h2⟩:=i9 up j;by_cases z:Fp xs j<xs.size
 ·rw[nB z];rw[beq_eq_false_iff_ne];intro e;injection e with e;exact h ⟨_,z,e⟩
 ·rw[Hg (by omega)];rfl
structure Tp(t:Fb)(hs:List Int):Prop where
 dm:t.dummies= #[]
 sz:t.place.size=hs.length
 up:Up t.place
 le:∀j,InP t.place j->j<=t.mask
 msk:isMask t.mask
 reach:∀i h,hs[i]? =some h->∃k,(itM t.mask k<|t.probeStart h).j=t.place.getD i 0/\∀k',k'<k->InP t.place (itM t.mask k'<|t.probeStart h).j
structure Tb(t:Fb)(hs:List Int):Prop extends Tp t hs where
 room:hs.length*5<t.mask*3
section
variable{t:Fb}{hs:List Int}
theorem Tb.live(T:Tb t hs){i:Nat}(h:i<t.place.size):t.slot (t.place.getD i 0)=.live i:=by
 unfold MJ;dsimp only;rw[gd T.up h,nB h];simp
theorem Tb.empty(T:Tb t hs){j:Nat}(h:¬InP t.place j):t.slot j=.empty:=by
 unfold MJ;dsimp only;rw[if_neg (by rw[rV T.up h];decide)];unfold Lm;rw[T.dm];rfl
theorem uI(t:Fb)(h:Int):(t.probeStart h).dummy=none/\(t.probeStart h).more<=9/\(t.probeStart h).perturb<2^64:=by
 refine⟨rfl,ql _ _,?_⟩;show(h%(2^64:Int)).toNat<2^64;omega
theorem zE{xs:Array Nat}(up:Up xs){m:Nat}(h:xs.size<=m):∃j,j<=m/\¬InP xs j:=by
 have base:∀n,n<=xs.size->(∀j,j<n->InP xs j)->∀a,a<n->xs.getD a 0=a:=by
  intro n hn hin a
  induction a using LS with
  |_ a ih=>
   intro ha;obtain⟨b,hb,eb⟩:=hin a ha;have lo:∀a,a<xs.size->a<=xs.getD a 0:=by
    intro a
    induction a with
    |zero=>intro _;omega
    |succ a ih=>intro h;have:=ih (by omega);have:=up a (a+1) (by omega) h;omega
   have:=lo b hb;by_cases z:b=a;·rw[<-z];rw[z]at eb;rw[z];exact eb
   ·have:=ih b (by omega) (by omega);omega
 by_cases hall:∀j,j<xs.size->InP xs j
 ·refine⟨xs.size,h,fun⟨a,ha,ea⟩=>?_⟩;have:=base xs.size (by omega) hall a ha;omega
 ·have ⟨j,hj⟩:=IA.mp hall;have ⟨h1,h2⟩:=Js.mp hj;exact⟨j,by omega,h2⟩
theorem Tb.gap(T:Tb t hs){p:Pr}(hp:p.dummy=none/\p.more<=9/\p.perturb<2^64):∃k,k<10*Fx t.mask/\¬InP t.place (itM t.mask k p).j/\∀k',k'<k->InP t.place (itM t.mask k' p).j:=by
 obtain⟨e,he,hn⟩:=zE T.up (m:=t.mask) (by have:=T.sz;have:=T.room;omega);obtain⟨k,hk,ek⟩:=AS T.msk hp.1 hp.2.1 hp.2.2 he;rw[<-ek]at hn;clear ek
 induction k using LS with
 |_ k ih=>
  by_cases z:∀k',k'<k->InP t.place (itM t.mask k' p).j;·exact⟨k,hk,hn,z⟩
  ·have ⟨k',h'⟩:=IA.mp z;have ⟨h1,h2⟩:=Js.mp h';exact ih k' h1 h2 (by omega)
theorem Tb.go(T:Tb t hs){hashAt:Nat->Int}(hA:∀i h,hs[i]? =some h->hashAt i=h)(h:Int):∀(E fuel:Nat)(p:Pr),p.dummy=none->E<fuel->¬InP t.place (itM t.mask E p).j->(∀k',k'<E->InP t.place (itM t.mask k' p).j)->
  (∃k i,k<E/\i<hs.length/\t.place.getD i 0=(itM t.mask k p).j/\hs[i]? =some h/\Hq t hashAt h fuel p=some (.candidate (itM t.mask k p).j i (itM t.mask (k+1) p))/\∀k',k'<k->∀i,t.place.getD i 0=(itM t.mask k' p).j->i<hs.length->hs[i]? ≠some h)\/
  (Hq t hashAt h fuel p=some (.empty (itM t.mask E p).j none)/\∀k',k'<E->∀i,t.place.getD i 0=(itM t.mask k' p).j->i<hs.length->hs[i]? ≠some h)
 |0,fuel+1,p,hd,hf,hn,ha=>by
  refine .inr ⟨?_,fun k' hk=>absurd hk (by omega)⟩;unfold Hq;rw[T.empty (j:=p.j) hn,hd];rfl
 |E+1,fuel+1,p,hd,hf,hn,ha=>by
  obtain⟨a,h1,h2⟩:=ha 0 (by omega);have h2':t.place.getD a 0=p.j:=h2;have one:∀i,t.place.getD i 0=p.j->i<hs.length->i=a:=fun i hi hl=>by
   have hi':i<t.place.size:=by have:=T.sz;omega
   rw[<-gd T.up hi',hi,<-h2',gd T.up h1]
  unfold Hq;rw[<-h2',T.live h1];dsimp only;have hl:a<hs.length:=by have:=T.sz;omega
  by_cases z:hashAt a=h
  ·refine .inl ⟨0,a,by omega,hl,h2,?_,?_,fun k' hk=>absurd hk (by omega)⟩
   ·have e:=hA a hs[a] (DO hl);rw[DO hl,<-e,z]
   ·rw[if_pos (by simpa using z),jZ,h2'];rfl
  ·rw[if_neg (by simpa using z),jZ];have hne:∀i,t.place.getD i 0=p.j->i<hs.length->hs[i]? ≠some h:=fun i hi hl' e=>z (by rw[one i hi hl']at e;exact hA a h e);have hd':(fM t.mask p).dummy=none:=by unfold fM;split<;>exact hd
   rcases Tb.go T hA h E fuel (fM t.mask p) hd' (by omega) hn (fun k' hk=>ha (k'+1) (by omega))with⟨k,i,g1,g2,g3,g4,g5,g6⟩|⟨g1,g2⟩
   ·refine .inl ⟨k+1,i,by omega,g2,g3,g4,g5,fun k' hk=>?_⟩;cases k' with
    |zero=>exact hne
    |succ k'=>exact g6 k' (by omega)
   ·refine .inr ⟨g1,fun k' hk=>?_⟩;cases k' with
    |zero=>exact hne
    |succ k'=>exact g2 k' (by omega)
theorem k6{α:Type}(xs:Array α)(p:Nat)(x:α):(Fv xs p x).toList=xs.toList.take p++x::xs.toList.drop p:=by
 unfold Fv;simp[EM,Gg,He]
theorem eE{α:Type}(xs:Array α){p:Nat}(h:p<=xs.size)(x:α):(Fv xs p x).size=xs.size+1:=by
 rw[<-Eu,k6];simp;omega
theorem x4{α:Type}(xs:Array α){p:Nat}(h:p<=xs.size)(x:α)(a:Nat):(Fv xs p x)[a]? =if a<p then xs[a]? else if a=p then some x else xs[a-1]? :=by
 rw[<-DX,k6];by_cases z:a<p;·rw[if_pos z,Ef (by simp;omega),EC z,DX]
 ·rw[if_neg z,Ea (by simp;omega)];have hl:(List.take p xs.toList).length=p:=by simp;omega
  rw[hl];by_cases y:a=p;·rw[if_pos y,y];simp
  ·rw[if_neg y,show a- p=(a- p- 1)+1 by omega,GV,EZ,DX];congr 1;omega
theorem ic(xs:Array Nat){p:Nat}(h:p<=xs.size)(x:Nat)(a:Nat):(Fv xs p x).getD a 0=if a<p then xs.getD a 0 else if a=p then x else xs.getD (a-1) 0:=by
 rw[EL,x4 xs h];split;·rw[EL]
 ·split;·rfl
  ·rw[EL]
theorem qp{xs:Array Nat}{p:Nat}(h:p<=xs.size){x j:Nat}:InP (Fv xs p x) j↔j=x\/InP xs j:=by
 constructor
 ·rintro ⟨a,ha,e⟩;rw[eE xs h]at ha;rw[ic xs h]at e;by_cases z:a<p;·rw[if_pos z]at e;exact .inr ⟨a,by omega,e⟩
  ·rw[if_neg z]at e;by_cases y:a=p;·rw[if_pos y]at e;exact .inl e.symm
   ·rw[if_neg y]at e;exact .inr ⟨a-1,by omega,e⟩
 ·rintro (rfl | ⟨a,ha,e⟩);·exact⟨p,by rw[eE xs h];omega,by rw[ic xs h,if_neg (by omega),if_pos rfl]⟩
  ·by_cases z:a< p;·exact⟨a,by rw[eE xs h];omega,by rw[ic xs h,if_pos z,e]⟩
   ·exact⟨a+1,by rw[eE xs h];omega,by rw[ic xs h,if_neg (by omega),if_neg (by omega)];exact e⟩
theorem Tb.put(T:Tb t hs){h:Int}{E:Nat}(hn:¬InP t.place (itM t.mask E<|t.probeStart h).j)(hj:(itM t.mask E<|t.probeStart h).j<=t.mask)(ha:∀k',k'<E->InP t.place (itM t.mask k'<|t.probeStart h).j):
  (t.put (itM t.mask E<|t.probeStart h).j).2<=hs.length/\(t.put (itM t.mask E<|t.probeStart h).j).1.mask=t.mask/\Tp (t.put (itM t.mask E<|t.probeStart h).j).1 (hs.take (t.put (itM t.mask E<|t.probeStart h).j).2++h::hs.drop (t.put (itM t.mask E<|t.probeStart h).j).2):=by
 obtain⟨b0,b1,b2⟩:=i9 T.up (itM t.mask E<|t.probeStart h).j;generalize hJ:(itM t.mask E<|t.probeStart h).j=j at*
 have hp2:(t.put j).2=Fp t.place j:=rfl;have hpl:(t.put j).1.place=Fv t.place (Fp t.place j) j:=rfl;have hmk:(t.put j).1.mask=t.mask:=rfl;have hst:∀h,(t.put j).1.probeStart h=t.probeStart h:=fun _=>rfl;have hsz:=T.sz;generalize Fp t.place j=p at*
 rw[hp2];refine⟨by omega,rfl,?_,?_,?_,?_,T.msk,?_⟩
 ·show(if Lm t.dummies j then _ else t.dummies)= #[];unfold Lm;rw[T.dm];rfl
 ·rw[hpl,eE _ b0];simp;omega
 ·rw[hpl];intro a b hab hb;rw[eE _ b0]at hb;rw[ic _ b0,ic _ b0];have gt:∀a,p<=a->a<t.place.size->j<t.place.getD a 0:=fun a h1 h2=>by
   have:=b2 a h1 h2;by_cases z:t.place.getD a 0=j;·exact absurd ⟨a,h2,z⟩ hn
   ·omega
  by_cases z1:a<p
  ·rw[if_pos z1];by_cases z2:b<p;·rw[if_pos z2];exact T.up a b hab (by omega)
   ·rw[if_neg z2];by_cases z3:b=p;·rw[if_pos z3];exact b1 a z1
    ·rw[if_neg z3];have:=b1 a z1;have:=gt (b-1) (by omega) (by omega);omega
  ·rw[if_neg z1,if_neg (show ¬b< p by omega),if_neg (show ¬b=p by omega)];by_cases z3:a=p;·rw[if_pos z3];exact gt (b-1) (by omega) (by omega)
   ·rw[if_neg z3];exact T.up (a-1) (b-1) (by omega) (by omega)
 ·intro q hq;rw[hpl,qp b0]at hq;rcases hq with rfl|hq
  ·exact hj
  ·exact T.le q hq
 ·intro i g hg;rw[hmk,hst,hpl];have mono:∀q,InP t.place q->InP (Fv t.place p j) q:=fun q hq=>(qp b0).mpr (.inr hq);have hl:(hs.take p).length=p:=by simp;omega
  by_cases z1:i<p
  ·rw[Ef (by omega),EC z1]at hg;obtain⟨k,ek,hk⟩:=T.reach i g hg;exact⟨k,by rw[ek,ic _ b0,if_pos z1],fun k' h'=>mono _<|hk k' h'⟩
  ·rw[Ea (by omega),hl]at hg;by_cases z2:i=p
   ·rw[z2,Ic,GW]at hg;cases hg;exact⟨E,by rw[hJ,ic _ b0,if_neg z1,if_pos z2],fun k' h'=>mono _<|ha k' h'⟩
   ·rw[show i- p=(i- p- 1)+1 by omega,GV,EZ]at hg;rw[show p+(i-p-1)=i-1 by omega]at hg;obtain⟨k,ek,hk⟩:=T.reach (i-1) g hg;exact⟨k,by rw[ek,ic _ b0,if_neg z1,if_neg z2],fun k' h'=>mono _<|hk k' h'⟩
end
def Oc(ow:Array (Option Nat))(j:Nat):Prop:=(ow.getD j<|some 0).isSome=true
theorem lZ(m i pt:Nat):∀k,k<=EJ m i-i->itM m k (sY m i pt)={j:=i+k,more:=EJ m i-i-k,i:=i,perturb:=pt,dummy:=none}
 |0,_=>rfl
 |k+1,h=>by
  rw[uD,lZ m i pt k (by omega)];unfold fM;rw[if_pos (by show EJ m i-i-k>0;omega)];rfl
theorem rW(m i:Nat):i<=EJ m i:=by unfold EJ;split<;>omega
theorem qq{m:Nat}(ow:Array (Option Nat)):∀(f i pt n:Nat),n<f->¬Oc ow (mJ m n (i,pt)).1->
  ∃j E,FZ m ow f i pt=some j/\(itM m E<|sY m i pt).j=j/\¬Oc ow j/\∀k',k'<E->Oc ow (itM m k'<|sY m i pt).j
 |0,_,_,_,h,_=>absurd h (by omega)
 |f+1,i,pt,n,h,hn=>by
  have hr:=rW m i;unfold FZ;cases hf:(F2<|EJ m i+1-i).find? fun k=>(ow.getD (i+k)<|some 0).isNone with
  |some k=>
   have hk:=Ht.mp<|List.mem_of_find?_eq_some hf;have hp:=List.find?_some hf;have hb:=(List.find?_range_eq_some.mp hf).2.2;refine⟨i+k,k,rfl,by rw[lZ m i pt k (by omega)],?_,fun k' hk'=>?_⟩;·unfold Oc;simp at hp ⊢;exact hp
   ·rw[lZ m i pt k' (by omega)];have:=hb k' hk';unfold Oc;simpa using this
  |none=>
   have hall:=List.find?_eq_none.mp hf;have occ:∀k,k<=EJ m i-i->Oc ow (i+k):=fun k hk=>by
    have:=hall k (Ht.mpr (by omega));unfold Oc;cases q:ow.getD (i+k) (some 0)with
    |none=>rw[q]at this;exact absurd rfl this
    |some a=>rfl
   cases n with
   |zero=>exact absurd (occ 0 (by omega)) hn
   |succ n=>
    obtain⟨j,E,e1,e2,e3,e4⟩:=qq ow f (Ep m i pt).1 (Ep m i pt).2 n (by omega) hn;have r:=jl m (EJ m i-i) (sY m i pt) rfl rfl;refine⟨j,(EJ m i-i)+1+E,e1,?_,e3,fun k' hk'=>?_⟩;·rw[eW,r];exact e2
    ·by_cases z:k'<=EJ m i- i;·rw[lZ m i pt k' z];exact occ k' z
     ·rw[show k'=(EJ m i- i)+1+(k'- ((EJ m i- i)+1)) by omega,eW,r];exact e4 _ (by omega)
abbrev stM(m:Nat)(h:Int):Pr:=sY m (Ez h%(m+1))<|Ez h
theorem x5(h:Int):Ez h<2^64:=by show(h%(2^64:Int)).toNat<2^64;omega
theorem x6{m:Nat}(hm:isMask m)(ow:Array (Option Nat))(h:Int){e:Nat}(he:e<=m)(hn:¬Oc ow e):
  ∃j E,FZ m ow (Fx m) (Ez h%(m+1)) (Ez h)=some j/\(itM m E<|stM m h).j=j/\¬Oc ow j/\∀k',k'<E->Oc ow (itM m k'<|stM m h).j:=by
 have i0:Ez h%(m+1)<=m:=by have:=Ja (Ez h) (show 0<m+1 by omega);omega
 have z:(mJ m 13 (Ez h%(m+1),Ez h)).2=0:=by
  rw[uF];exact LB (by have:=x5 h;show Ez h<32^13;omega)
 have i1:=zD m 13 (Ez h%(m+1),Ez h) i0;obtain⟨n,hn',en⟩:=uH hm i1 he;refine qq ow _ _ _ (13+n) (by unfold Fx;omega) ?_;rw[qm,show mJ m 13 (Ez h%(m+1),Ez h)=((mJ m 13 (Ez h%(m+1),Ez h)).1,0)from J9 rfl z,uG,en];exact hn
structure Lay(m:Nat)(hs:List Int)(ow:Array (Option Nat))(k:Nat):Prop where
 sz:ow.size=m+1
 cnt:ow.toList.countP KN=k
 inj:∀(j j' i:Nat),ow[j]? =some (some i)->ow[j']? =some (some i)->j=j'
 lt:∀(j i:Nat),ow[j]? =some (some i)->i<k
 reach:∀(j i:Nat)(h:Int),ow[j]? =some (some i)->hs[i]? =some h->∃n,(itM m n<|stM m h).j=j/\∀n',n'<n->Oc ow (itM m n'<|stM m h).j
theorem ie{ow:Array (Option Nat)}{j:Nat}(hj:j<ow.size):Oc ow j↔∃i,ow[j]? =some (some i):=by
 unfold Oc;simp[Gj,hj];cases ow[j]<;>simp
theorem Lay.gap{m:Nat}{hs:List Int}{ow:Array (Option Nat)}{k:Nat}(L:Lay m hs ow k)(h:k<=m):∃e,e<=m/\¬Oc ow e:=by
 by_cases z:∀e,e<=m->Oc ow e
 ·exfalso;have:ow.toList.countP KN=ow.toList.length:=List.countP_eq_length.mpr fun a ha=>by
   obtain⟨j,hj,e⟩:=Ge.mp ha;have hj':j<ow.size:=by simpa using hj
   obtain⟨i,hi⟩:=(ie hj').mp (z j (by have:=L.sz;omega));rw[<-e];have:ow.toList[j]=some i:=by
    have q:ow.toList[j]? =some (some i):=by rw[DX];exact hi
    rw[DO hj]at q;injection q
   rw[this];rfl
  rw[L.cnt,Eu,L.sz]at this;omega
 ·have ⟨e,he⟩:=IA.mp z;have ⟨h1,h2⟩:=Js.mp he;exact⟨e,h1,h2⟩
theorem AU{ow:Array (Option Nat)}{j:Nat}(h:¬Oc ow j):j<ow.size:=by
 by_cases z:j<ow.size;·exact z
 ·exact absurd (by unfold Oc;simp[Gj,z]) h
theorem Lay.step{m:Nat}(hm:isMask m){hs:List Int}{ow:Array (Option Nat)}{k:Nat}(L:Lay m hs ow k)(hk:k<=m){h:Int}(hh:hs[k]? =some h):
  ∃j,FZ m ow (Fx m) (Ez h%(m+1)) (Ez h)=some j/\Lay m hs (ow.setIfInBounds j<|some k) (k+1):=by
 obtain⟨e,he,hn⟩:=L.gap hk;obtain⟨j,E,e1,e2,e3,e4⟩:=x6 hm ow h he hn;have hj:=AU e3;refine⟨j,e1,?_⟩;have none_j:ow[j]? =some none:=by
  have:¬∃i,ow[j]? =some (some i):=fun z=>e3<|(ie hj).mpr z;rw[E7 hj]at this ⊢;cases q:ow[j]with
  |none=>rfl
  |some i=>exact absurd ⟨i,by rw[q]⟩ this
 have at_:∀q,(ow.setIfInBounds j<|some k)[q]? =if q=j then some (some k)else ow[q]? :=fun q=>by
  rw[Array.getElem?_setIfInBounds];by_cases z:j=q;·subst z;simp[hj]
  ·rw[if_neg z,if_neg<|HN z]
 have oc:∀q,Oc ow q->Oc (ow.setIfInBounds j<|some k) q:=fun q hq=>by
  by_cases hs':q<ow.size
  ·obtain⟨i,hi⟩:=(ie hs').mp hq;refine(ie (by simpa using hs')).mpr ?_;rw[at_];by_cases z:q=j;·exact⟨k,by rw[if_pos z]⟩
   ·exact⟨i,by rw[if_neg z];exact hi⟩
  ·unfold Oc;simp[Gj,hs']
 refine⟨by simp[L.sz],?_,?_,?_,?_⟩
 ·have hj2:j< ow.toList.length:=by simpa using hj
  have q:ow.toList[j]=none:=by
   have:=none_j;rw[<-DX,DO hj2]at this;injection this
  rw[Hz,List.countP_set hj2,q,L.cnt];simp
 ·intro a b i ha hb;rw[at_]at ha hb;by_cases z1:a=j
  ·rw[if_pos z1]at ha;injection ha with ha;injection ha with ha;by_cases z2:b=j;·rw[z1,z2]
   ·rw[if_neg z2]at hb;have:=L.lt b i hb;omega
  ·rw[if_neg z1]at ha;by_cases z2:b=j
   ·rw[if_pos z2]at hb;injection hb with hb;injection hb with hb;have:=L.lt a i ha;omega
   ·rw[if_neg z2]at hb;exact L.inj a b i ha hb
 ·intro a i ha;rw[at_]at ha;by_cases z1:a=j
  ·rw[if_pos z1]at ha;injection ha with ha;injection ha with ha;omega
  ·rw[if_neg z1]at ha;have:=L.lt a i ha;omega
 ·intro a i g ha hg;rw[at_]at ha;by_cases z1:a=j
  ·rw[if_pos z1]at ha;injection ha with ha;injection ha with ha;subst ha;rw[hh]at hg;cases hg;exact⟨E,by rw[z1];exact e2,fun n' h'=>oc _<|e4 n' h'⟩
  ·rw[if_neg z1]at ha;obtain⟨n,q1,q2⟩:=L.reach a i g ha hg;exact⟨n,q1,fun n' h'=>oc _<|q2 n' h'⟩
theorem rX(m:Nat)(hs:List Int):Lay m hs (K8 (m+1) none) 0:=by
 have no:∀(j i:Nat),(K8 (m+1) (none:Option Nat))[j]? =some (some i)->False:=fun j i h=>by
  rw[Array.getElem?_replicate]at h;split at h<;>simp at h
 refine⟨by simp,?_,fun j j' i h _=>(no j i h).elim,fun j i h=>(no j i h).elim,fun j i _ h _=>(no j i h).elim⟩;rw[Array.toList_replicate,List.countP_replicate];rfl
abbrev m6(m:Nat)(acc:Option (Array (Option Nat)×Nat))(h:Int):Option (Array (Option Nat)×Nat):=do
 let (owner,k) <-acc
 let j <-FZ m owner (Fx m) (Ez h%(m+1)) (Ez h)
 pure (owner.setIfInBounds j<|some k,k+1)
theorem nE{m:Nat}(hm:isMask m)(hs:List Int):∀(r:List Int)(ow:Array (Option Nat))(k:Nat),Lay m hs ow k->hs.drop k=r->hs.length<=m->k<=hs.length->∃ow',r.foldl (m6 m) (some (ow,k))=some (ow',hs.length)/\Lay m hs ow' hs.length
 | [],ow,k,L,hd,hl,hk=>by
  have:k=hs.length:=by
   have:=congrArg H0 hd;simp at this;omega
  subst this;exact⟨ow,rfl,L⟩
 |h::r,ow,k,L,hd,hl,hk=>by
  have hk2:k<hs.length:=by
   have:=congrArg H0 hd;simp at this;omega
  have hh:hs[k]? =some h:=by
   have:(hs.drop k)[0]? =some h:=by rw[hd];rfl
   rw[EZ]at this;exact this
  obtain⟨j,e,L'⟩:=L.step hm (by omega) hh;have e':m6 m (some (ow,k)) h=some (ow.setIfInBounds j<|some k,k+1):=by
   show(FZ m ow (Fx m) (Ez h%(m+1))<|Ez h).bind _=_;rw[e];rfl
  rw[IK,e'];exact nE hm hs r _ _ L' (by rw[<-Ma,hd];rfl) hl (by omega)
theorem nF{m:Nat}(hm:isMask m){hs:Array Int}(hl:hs.size<=m):∃ow,SetTable.layClean m hs=some ow/\Lay m hs.toList ow hs.size:=by
 obtain⟨ow,e,L⟩:=nE hm hs.toList hs.toList _ 0 (rX m hs.toList) rfl (by simpa using hl) (by simp);refine⟨ow,?_,by simpa using L⟩;show Option.map (·.1) (hs.foldl (m6 m)<|some (K8 (m+1) none,0))=_;rw[<-Array.foldl_toList,e];rfl
abbrev cK(m:Nat)(ow:Array (Option Nat)):List (Nat×Nat):=(F2<|m+1).filterMap fun j=>(ow.getD j none).map (j, ·)
theorem fq{m:Nat}{ow:Array (Option Nat)}(hs:ow.size=m+1){j i:Nat}:(j,i)∈cK m ow↔ow[j]? =some (some i):=by
 unfold cK;rw[HQ];constructor
 ·rintro ⟨q,hq,e⟩;rw[EO]at e;obtain⟨a,e1,e2⟩:=e;injection e2 with e2 e3;subst e2;subst e3;have:=Ht.mp hq;have hq':q<ow.size:=by omega
  simp[Gj,hq']at e1;rw[E7 hq',e1]
 ·intro h;have hj:j<ow.size:=(G0.mp h).1;refine⟨j,Ht.mpr (by omega),?_⟩;rw[EL,h];rfl
theorem m7{f:Nat->Option Nat}:∀{l:List Nat},l.Pairwise (· < ·)->((l.filterMap fun j=>(f j).map (j, ·)).map (·.1)).Pairwise (· < ·)
 | [],_=>by simp
 |a::l,h=>by
  have ih:=m7 (f:=f) (Jb.mp h).2;cases e:f a with
  |none=>simpa [e] using ih
  |some b=>
   rw[JD (b:=(a,b)) (by rw[e];rfl),EY];refine Jb.mpr ⟨fun q hq=>?_,ih⟩;obtain⟨x,hx,rfl⟩:=Ex.mp hq;obtain⟨c,hc,e2⟩:=HQ.mp hx;rw[EO]at e2;obtain⟨_,_,rfl⟩:=e2;exact(Jb.mp h).1 c hc
theorem uJ{f:Nat->Option Nat}:∀(l:List Nat),(l.filterMap fun j=>(f j).map (j, ·)).length=(l.map f).countP KN
 | []=>rfl
 |a::l=>by
  have ih:=uJ (f:=f) l;cases e:f a with
  |none=>rw[List.filterMap_cons_none (by rw[e];rfl),ih];simp[e]
  |some b=>rw[JD (b:=(a,b)) (by rw[e];rfl)];simp[e,ih]
theorem uK{m k:Nat}{hs:List Int}{ow:Array (Option Nat)}(L:Lay m hs ow k):(cK m ow).length=k:=by
 unfold cK;rw[uJ (f:=fun j=>ow.getD j none),<-L.cnt];congr 1;refine List.ext_getElem (by simp[L.sz]) fun i h1 h2=>?_;simp at h1 h2;simp[Gj,h2]
theorem uL:∀(n:Nat)(l:List Nat),l.Nodup->(∀x∈l,x<n)->l.length<=n
 |0,l,_,h=>by
  cases l with
  |nil=>simp
  |cons a l=>exact absurd (h a<|E5 ..) (by omega)
 |n+1,l,nd,h=>by
  by_cases z:n∈l
  ·have:=uL n (l.erase n) (nd.erase n) fun x hx=>by
    have h1:=h x<|Ij hx;have h2:x≠n:=fun e=>by subst e;exact(HK nd) hx
    omega
   rw[HL z]at this;omega
  ·have:=uL n l nd fun x hx=>by
    have h1:=h x hx;have h2:x≠n:=fun e=>z<|e▸hx;omega
   omega
theorem qr:∀(n:Nat)(l:List Nat),l.Nodup->(∀x∈l,x<n)->l.length=n->l.Perm (F2 n)
 |0,l,_,_,h=>by rw[GO.mp h];exact .refl _
 |n+1,l,nd,h,hl=>by
  have z:n∈l:=by
   by_cases z:n∈l;·exact z
   ·have:=uL n l nd fun x hx=>by
     have h1:=h x hx;have h2:x≠n:=fun e=>z<|e▸hx;omega
    omega
  have:=qr n (l.erase n) (nd.erase n) (fun x hx=>by
    have h1:=h x<|Ij hx;have h2:x≠n:=fun e=>by subst e;exact(HK nd) hx
    omega) (by rw[HL z];omega)
  rw[List.range_succ];exact(List.perm_cons_erase z).trans ((List.Perm.cons n this).trans (List.perm_append_singleton n _).symm)
theorem x8{l:List Nat}(h:l.Pairwise (· < ·)):Up l.toArray:=fun a b hab hb=>by
 have hb':b<l.length:=by simpa using hb
 have:=G4.mp h a b (by omega) hb' hab;simpa [Gj,show a<l.length by omega,hb'] using this
theorem lg{m i:Nat}(h:i<=m):i+(EJ m i-i)<=m:=by unfold EJ;split<;>omega
theorem AW{m:Nat}{p:Pr}(h:p.j+p.more<=m):(fM m p).j+(fM m p).more<=m:=by
 unfold fM;split;·show p.j+1+(p.more-1)<=m;omega
 ·refine lg ?_;show(p.i*5+1+p.perturb/32)%(m+1)<=m;have:=Ja (p.i*5+1+p.perturb/32) (show 0<m+1 by omega);omega
theorem AX{m:Nat}:∀(n:Nat){p:Pr},p.j+p.more<=m->(itM m n p).j+(itM m n p).more<=m
 |0,_,h=>h
 |n+1,_,h=>AX n<|AW h
theorem yx{m:Nat}{h:Int}(n:Nat):(itM m n<|stM m h).j<=m:=by
 have:=AX (m:=m) n (p:=stM m h) (lg (i:=Ez h%(m+1)) (by have:=Ja (Ez h) (show 0<m+1 by omega);omega));omega
theorem x9{m:Nat}(hm:isMask m){hs:Array Int}(hl:hs.size<=m)(fi mo:Nat)(led plain:Bool):
  ∃t order,MK m fi mo led plain hs=some (t,order)/\t.mask=m/\t.led=led/\t.plain=plain/\order.toList.Perm (F2 hs.size)/\Tp t (order.toList.map fun i=>hs.toList.getD i 0):=by
 obtain⟨ow,e,L⟩:=nF hm hl;refine⟨_,_,by unfold MK;rw[e];rfl,rfl,rfl,rfl,?_,?_⟩
 ·show((cK m ow).map (·.2)).toArray.toList.Perm _;have len:=uK L;have inc:=m7 (f:=fun j=>ow.getD j none)<|K1 (n:=m+1);have nd1:((cK m ow).map (·.1)).Nodup:=inc.imp fun h=>Ed h;refine qr hs.size _ ?_ (fun x hx=>?_) (by simpa using len)
  ·show((cK m ow).map (·.2)).Nodup;rw[ES,GD];rw[ES,GD]at nd1;refine nd1.imp_of_mem fun{a b}ha hb hne e=>hne ?_;have h1:=(fq L.sz (j:=a.1) (i:=a.2)).mp ha;have h2:=(fq L.sz (j:=b.1) (i:=b.2)).mp hb;rw[<-e]at h2;exact L.inj _ _ _ h1 h2
  ·obtain⟨y,hy,rfl⟩:=Ex.mp (show x∈(cK m ow).map (·.2)from hx);exact L.lt _ _<|(fq L.sz (j:=y.1) (i:=y.2)).mp hy
 ·have inc:=m7 (f:=fun j=>ow.getD j none)<|K1 (n:=m+1);have inp:∀j,InP ((cK m ow).map (·.1)).toArray j↔∃i,ow[j]? =some (some i):=fun j=>by
   constructor
   ·rintro ⟨a,ha,e⟩;have ha':a<(cK m ow).length:=by simpa using ha
    have:((cK m ow)[a]).1=j:=by simpa [Gj,ha'] using e
    have mem:=G9 ha';rw[<-this];exact⟨_,(fq L.sz (j:=(cK m ow)[a].1) (i:=(cK m ow)[a].2)).mp mem⟩
   ·rintro ⟨i,hi⟩;have mem:=(fq L.sz).mpr hi;obtain⟨a,ha,e⟩:=Ge.mp mem;exact⟨a,by simpa using ha,by simp[Gj,ha,e]⟩
  have ocp:∀j,j<=m->Oc ow j->InP ((cK m ow).map (·.1)).toArray j:=fun j hj h=>(inp j).mpr ((ie (by have:=L.sz;omega)).mp h);refine⟨rfl,?_,x8 inc,?_,hm,?_⟩
  ·show((cK m ow).map (·.1)).toArray.size=(NS _ ((cK m ow).map (·.2)).toArray.toList).length;simp
  ·intro j hj;obtain⟨i,hi⟩:=(inp j).mp hj;have:=(G0.mp hi).1;have:=L.sz;show j<=m;omega
  ·intro a h ha;have ha2:((cK m ow)[a]?).map (fun y=>hs.toList.getD y.2 0)=some h:=by
    have:(((cK m ow).map (·.2)).map fun i=>hs.toList.getD i 0)[a]? =some h:=ha;rw[FX,DU]at this;exact this
   obtain⟨y,hy,e⟩:=EO.mp ha2;have mem:=Ek hy;have at_:=(fq L.sz (j:=y.1) (i:=y.2)).mp mem;have lt:=L.lt _ _ at_;have hh:hs.toList[y.2]? =some h:=by
    have hlt:y.2<hs.toList.length:=by simpa using lt
    rw[Ff,DO hlt]at e;rw[DO hlt];exact congrArg some e
   obtain⟨n,q1,q2⟩:=L.reach _ _ _ at_ hh;have hla:a<(cK m ow).length:=(DR.mp hy).1;refine⟨n,?_,fun n' h'=>?_⟩
   ·show(itM m n<|stM m h).j=((cK m ow).map (·.1)).toArray.getD a 0;rw[q1,EL];simp only[List.getElem?_toArray,DU,hy];rfl
   ·refine ocp _ ?_<|q2 n' h';by_cases z:(itM m n'<|stM m h).j<=m;·exact z
    ·exfalso;exact z<|yx n'
section
variable{prog:E4}{w:E8}{K:Type}[DecidableEq K]{knd:KeyKind prog w K}{A:EB}{E:DM->DN->Prop}{s:DN}
structure TupsOf(knd:KeyKind prog w K)(h:Heap)(es:List (Int×DM))(ks:List (List K)):Prop where
 len:es.length=ks.length
 at_:∀(i:Nat)(e:Int×DM),es[i]? =some e->∃k b,ks[i]? =some k/\e.2=.ref b/\Gv knd h k b/\e.1=tupleKeyHash knd k
theorem Tb.fits{t:Fb}{es:Array (Int×DM)}(T:Tb t (es.toList.map (·.1))):t.fits es.size=true:=by
 have h1:=T.sz;have h2:=T.room;have h3:=T.dm;simp at h1 h2;unfold ML KO;rw[h3];simp;omega
theorem uM{m:Nat}(h:isMask m):(m%2==0)=false:=by rcases h with rfl|rfl|rfl|rfl|rfl<;>rfl
theorem yy{m:Nat}:∀(k:Nat){p:Pr},p.dummy=none->(itM m k p).dummy=none
 |0,_,h=>h
 |k+1,p,h=>yy k (by unfold fM;split<;>exact h)
theorem oT{a x:Addr}{o:Obj}{es:Array (Int×DM)}{ep:Nat}{t:Fb}{ks:List (List K)}{kx:List K}(hu:A.units<cLine)(ho:s.heap.get? a=some o)(hd:o.data=.set es ep t)(T:Tb t (es.toList.map (·.1)))(hk:TupsOf knd s.heap es.toList ks)(hx:Gv knd s.heap kx x)
  (seen:∀(l:List DM)(Q:Bool->DN->Prop),(∀y∈l,∃e∈es.toList,y=e.2)->Q false s->wpAny (model prog w) A (searchCouldBeSeen (.ref x) l) Q E s) {Q:SetFound->DN->Prop}:
  ∀(fuel G:Nat)(st:Option Pr),(st.getD<|t.probeStart<|tupleKeyHash knd kx).dummy=none->G<fuel->G<10*Fx t.mask-> ¬InP t.place (itM t.mask G<|st.getD<|t.probeStart<|tupleKeyHash knd kx).j->(∀k',k'<G->InP t.place (itM t.mask k'<|st.getD<|t.probeStart<|tupleKeyHash knd kx).j)->
   ((∃k i,k<G/\t.place.getD i 0=(itM t.mask k<|st.getD<|t.probeStart<|tupleKeyHash knd kx).j/\ks[i]? =some kx)->Q (.there none) s)->
   ((∀k i,k<G->t.place.getD i 0=(itM t.mask k<|st.getD<|t.probeStart<|tupleKeyHash knd kx).j->i<es.size->ks[i]? ≠some kx)->Q (.free (itM t.mask G<|st.getD<|t.probeStart<|tupleKeyHash knd kx).j false) s)->
   wpAny (model prog w) A (setSearchFrom a (.ref x) (tupleKeyHash knd kx) true fuel st) Q E s:=by
 intro fuel
 induction fuel with
 |zero=>intro G st _ h;exact absurd h (by omega)
 |succ fuel ih=>
  intro G st hdm hG hGt hn ha h1 h2;unfold setSearchFrom;refine DF<|FK ho hd T.fits ?_;dsimp only;rw[if_neg (by unfold SetTable.gaveWay;rw[uM T.msk];decide)];generalize hp:st.getD (t.probeStart<|tupleKeyHash knd kx)=p at*
  have hA:∀(i:Nat)(h:Int),(es.toList.map (·.1))[i]? =some h->(fun(i:Nat)=>(es[i]?.map (fun(e:Int×DM)=>e.1)).getD 0) i=h:=fun i h hh=>by
   rw[DU,DX]at hh;show(es[i]?.map (fun(e:Int×DM)=>e.1)).getD 0=h;rw[hh];rfl
  have go:=T.go hA (tupleKeyHash knd kx) G (10*Fx t.mask) p hdm hGt hn ha;have hpr:t.probe (fun(i:Nat)=>(es[i]?.map (fun(e:Int×DM)=>e.1)).getD 0) (tupleKeyHash knd kx) p=Hq t (fun(i:Nat)=>(es[i]?.map (fun(e:Int×DM)=>e.1)).getD 0) (tupleKeyHash knd kx) (10*Fx t.mask) p:=rfl;rw[<-hpr]at go;rcases go with⟨k,i,g1,g2,g3,g4,g5,g6⟩|⟨g1,g2⟩
  ·have e:∀f,f=(fun(i:Nat)=>(es[i]?.map (fun(e:Int×DM)=>e.1)).getD 0)->t.probe f (tupleKeyHash knd kx) p=some (.candidate (itM t.mask k p).j i (itM t.mask (k+1) p)):=fun f hf=>by rw[hf];exact g5
   have hi:i<es.size:=by simpa using g2
   obtain⟨ky,b,q1,q2,q3,q4⟩:=hk.at_ i es[i] (by rw[DX,E7 hi]);have hei:es[i]? =some (es[i].1,.ref b):=by rw[E7 hi,<-q2]
   have key_ne:∀k' i',k'<k->t.place.getD i' 0=(itM t.mask k' p).j->i'<es.size->ks[i']? ≠some kx:=fun k' i' hk' hi' hl hq=>by
    have hl':i'<es.toList.length:=by simpa using hl
    obtain⟨kz,c,z1,z2,z3,z4⟩:=hk.at_ i' es.toList[i'] (DO hl');rw[z1]at hq;cases hq;refine g6 k' hk' i' hi' (by simpa using hl) ?_;rw[DU,DO hl',<-z4];rfl
   have one:∀i',t.place.getD i' 0=(itM t.mask k p).j->i'<es.size->i'=i:=fun i' hi' hl=>by
    have h1':i'<t.place.size:=by have:=T.sz;simp at this;omega
    have h2':i<t.place.size:=by have:=T.sz;simp at this;omega
    rw[<-gd T.up h1',hi',<-g3,gd T.up h2']
   have again:ky≠kx->wpAny (model prog w) A (setSearchFrom a (.ref x) (tupleKeyHash knd kx) true fuel<|some<|itM t.mask (k+1) p) Q E s:=fun hne=>by
    have ad:∀n,itM t.mask n (itM t.mask (k+1) p)=itM t.mask (k+1+n) p:=fun n=>(eW t.mask (k+1) n p).symm;refine ih (G-(k+1)) (some<|itM t.mask (k+1) p) ?_ (by omega) (by omega) ?_ ?_ ?_ ?_;·exact yy (k+1) hdm
    ·show ¬InP t.place (itM t.mask _<|itM t.mask (k+1) p).j;rw[ad,show k+1+(G-(k+1))=G by omega];exact hn
    ·intro k' hk';show InP t.place (itM t.mask _<|itM t.mask (k+1) p).j;rw[ad];exact ha _ (by omega)
    ·rintro ⟨k',i',r1,r2,r3⟩;have r2':t.place.getD i' 0=(itM t.mask k'<|itM t.mask (k+1) p).j:=r2;rw[ad]at r2';exact h1 ⟨k+1+k',i',by omega,r2',r3⟩
    ·intro r;show Q (.free (itM t.mask _<|itM t.mask (k+1) p).j false) s;rw[ad,show k+1+(G-(k+1))=G by omega];refine h2 fun k' i' z1 z2 z3=>?_;by_cases y1:k'<k;·exact key_ne k' i' y1 z2 z3
     ·by_cases y2:k'=k
      ·subst y2;rw[one i' z2 z3,q1];intro z;injection z with z;exact hne z
      ·refine r (k'- (k+1)) i' (by omega) ?_ z3;show t.place.getD i' 0=(itM t.mask _<|itM t.mask (k+1) p).j;rw[ad,show k+1+(k'-(k+1))=k' by omega];exact z2
   have hlive:t.slot (itM t.mask k p).j=.live i:=by rw[<-g3];exact T.live (by have:=T.sz;simp at this;omega)
   have hmem:t.sameMemory t.moves t.mask=some true:=by unfold SetTable.sameMemory;simp
   rw[e]
   ·dsimp only;simp only[hei];by_cases hl:t.led=true
    ·rw[if_neg (by simp[hl])];refine DF<|Fz<|(tupleKind knd).eqBool hu q3 hx ?_;refine DF<|FK ho hd T.fits ?_;dsimp only;by_cases hq:ky=kx
     ·rw[decide_eq_true hq,if_pos (by decide)];exact DL<|h1 ⟨k,i,g1,g3,hq▸q1⟩
     ·rw[decide_eq_false hq,if_neg (by decide),hmem];dsimp only;rw[if_pos rfl,hlive];dsimp only;rw[hei];dsimp only;refine DF<|Ke ?_;refine DF<|DL ?_;exact again hq
    ·rw[if_pos (by simp[hl])];refine DF<|seen _ _ (fun y hy=>?_) ?_
     ·obtain⟨z,hz,rfl⟩:=Ex.mp hy;exact⟨z,by simp at hz;simpa using hz.1,rfl⟩
     rw[if_neg (by decide)];refine DF<|Fz<|(tupleKind knd).eqBool hu q3 hx ?_;refine DF<|FK ho hd T.fits ?_;dsimp only;by_cases hq:ky=kx
     ·rw[decide_eq_true hq,if_pos (by decide)];exact DL<|h1 ⟨k,i,g1,g3,hq▸q1⟩
     ·rw[decide_eq_false hq,if_neg (by decide),hmem];dsimp only;rw[if_pos rfl,hlive];dsimp only;rw[hei];dsimp only;refine DF<|Ke ?_;refine DF<|DL ?_;exact again hq
   ·rfl
  ·have e:∀f,f=(fun(i:Nat)=>(es[i]?.map (fun(e:Int×DM)=>e.1)).getD 0)->t.probe f (tupleKeyHash knd kx) p=some (.empty (itM t.mask G p).j none):=fun f hf=>by rw[hf];exact g1
   rw[e]
   ·refine DL<|h2 fun k i hk' hi hl hq=>?_;have hl':i<es.toList.length:=by simpa using hl
    obtain⟨ky,b,q1,q2,q3,q4⟩:=hk.at_ i es.toList[i] (DO hl');rw[q1]at hq;cases hq;refine g2 k hk' i hi (by simpa using hl) ?_;rw[DU,DO hl',<-q4];rfl
   ·rfl
end
section
variable{prog:E4}{w:E8}{K:Type}[DecidableEq K]{knd:KeyKind prog w K}{A:EB}{E:DM->DN->Prop}{s:DN}
theorem rY{n:Nat}{v:DM}(h:carriedByValue v=true):ofAClassStatement n v=pure false:=by
 cases v<;>first|(cases n<;>rfl)|(exfalso;revert h;simp[carriedByValue])
theorem lh{ks:List K}{a:Addr}{Q:Bool->DN->Prop}(hk:Gv knd s.heap ks a)(h:Q false s):wpAny (model prog w) A (ofAClassStatement 8<|.ref a) Q E s:=by
 have hT:=hk.typeIs;obtain⟨o,items,n,ho,_,hd,hi⟩:=hk;unfold ofAClassStatement;refine DF<|wpAny_typeOf hT ?_;dsimp only;rw[if_pos (by rfl)];refine DF<|DL ?_;rw[if_neg (by decide)];refine DF<|ER ho hd ?_;dsimp only;refine DF ?_;show wpAny _ _ (forIn items _ _) _ _ s;rw[<-L8];refine JN _ (fun rest r s'=>r.1=none/\s'=s/\∀v∈rest,carriedByValue v=true) _ ?_ ?_ _ _ ⟨rfl,rfl,hi.byValue⟩
 ·rintro v rest r s' ⟨hr,rfl,hall⟩;rw[rY<|hall v E5];refine DF<|DL ?_;simp only[ED,if_false];exact DL ⟨rfl,rfl,fun u hu'=>hall u<|E9 _ hu'⟩
 ·rintro ⟨r1,r2⟩ s' ⟨hr,rfl,_⟩;simp only at hr;subst hr;exact DL h
theorem uN{kx:List K}{x:Addr}(hx:Gv knd s.heap kx x):∀(l:List DM){Q:Bool->DN->Prop},(∀y∈l,∃k b,y=.ref b/\Gv knd s.heap k b)->Q false s->wpAny (model prog w) A (searchCouldBeSeen (.ref x) l) Q E s:=by
 intro l Q hl h;unfold searchCouldBeSeen;refine DF ?_;refine JN _ (fun rest r s'=>r.1=none/\s'=s/\∀y∈rest,∃k b,y=.ref b/\Gv knd s.heap k b) _ ?_ ?_ _ _ ⟨rfl,rfl,hl⟩
 ·rintro v rest r s' ⟨hr,rfl,hall⟩;obtain⟨k,b,rfl,hb⟩:=hall v E5;dsimp only;by_cases z:x=b
  ·rw[if_pos (by simp[z])];exact DL ⟨rfl,rfl,fun u hu'=>hall u<|E9 _ hu'⟩
  ·rw[if_neg (by simp[z,carriedByValue])];refine DF<|(tupleKind knd).quiet hx ?_;simp only[MM,ED,if_false];refine DF<|(tupleKind knd).quiet hb ?_;simp only[MM,ED,if_false];refine DF<|lh hx ?_;simp only[ED,if_false];refine DF<|lh hb ?_;simp only[ED,if_false];exact DL ⟨rfl,rfl,fun u hu'=>hall u<|E9 _ hu'⟩
 ·rintro ⟨r1,r2⟩ s' ⟨hr,rfl,_⟩;simp only at hr;subst hr;exact DL h
end
section
variable{prog:E4}{w:E8}{K:Type}[DecidableEq K]{knd:KeyKind prog w K}
theorem nG{h h':Heap}{a b:Addr}{o:Obj}{es:Array (Int×DM)}{ep:Nat}{t:Fb}{k:List K}(hk:Gv knd h k b)(ho:h.get? a=some o)(hd:o.data=.set es ep t)(hs:E6 a h h'):Gv knd h' k b:=by
 obtain⟨ob,items,n,h1,h2,h3,h4⟩:=hk;have ne:b≠a:=fun z=>by
  subst z;rw[ho]at h1;cases h1;rw[hd]at h3;cases h3
 exact⟨ob,items,n,(hs.2 b ne).trans h1,h2,h3,h4⟩
theorem TupsOf.keep{h h':Heap}{a:Addr}{o:Obj}{es:Array (Int×DM)}{ep:Nat}{t:Fb}{l:List (Int×DM)}{ks:List (List K)}(T:TupsOf knd h l ks)(ho:h.get? a=some o)(hd:o.data=.set es ep t)(hs:E6 a h h'):TupsOf knd h' l ks:=
 ⟨T.len,fun i e he=>let ⟨k,b,q1,q2,q3,q4⟩:=T.at_ i e he;⟨k,b,q1,q2,nG q3 ho hd hs,q4⟩⟩
end
section
variable{prog:E4}{w:E8}{K:Type}[DecidableEq K]{knd:KeyKind prog w K}{A:EB}{E:DM->DN->Prop}{s:DN}
theorem uO{ks:List K}{a:Addr}{Q:Bool->DN->Prop}(hI:∀k∈ks,∀v,knd.is k v=true->∃i t,v=.int i t)(hk:Gv knd s.heap ks a)(h:Q true s):wpAny (model prog w) A (hashByValue 8<|.ref a) Q E s:=by
 have hT:=hk.typeIs;obtain⟨o,items,n,ho,_,hd,hi⟩:=hk;unfold hashByValue;refine DF<|IJ hT F.slot_tuple_hash.lookup ?_;show wpAny _ _ (seqItems? (.ref a)>>=_) _ _ s;refine DF<|ER ho hd ?_;dsimp only;refine DF ?_;show wpAny _ _ (forIn items _ _) _ _ s;rw[<-L8];have hall:∀v∈items.toList,∃i t,v=.int i t:=by
  clear hd ho;generalize items.toList=l at hi
  induction hi with
  |nil=>intro v hv;cases hv
  |cons h1 _ ih=>
   intro v hv;rcases E1.mp hv with rfl|hv
   ·exact hI _ (E5 ..) _ h1
   ·exact ih (fun k hk=>hI k<|E9 _ hk) v hv
 refine JN _ (fun rest r s'=>r.1=none/\s'=s/\∀v∈rest,∃i t,v=HD i t) _ ?_ ?_ _ _ ⟨rfl,rfl,hall⟩
 ·rintro v rest r s' ⟨hr,rfl,hall⟩;obtain⟨i,t,rfl⟩:=hall v E5;show wpAny _ _ (hashByValue 7 (.int i t)>>=_) _ _ _;rw[show hashByValue 7 (.int i t)=pure true from rfl];refine DF<|DL ?_;exact DL ⟨rfl,rfl,fun u hu'=>hall u<|E9 _ hu'⟩
 ·rintro ⟨r1,r2⟩ s' ⟨hr,rfl,_⟩;simp only at hr;subst hr;exact DL h
structure SetT(knd:KeyKind prog w K)(h:Heap)(a:Addr)(led:Bool)(ks:List (List K))(o:Obj)(es:Array (Int×DM))(ep:Nat)(t:Fb):Prop where
 at_:h.get? a=some o
 ex:o.ExactSet
 dat:o.data=.set es ep t
 tab:Tb t (es.toList.map (·.1))
 tup:TupsOf knd h es.toList ks
 nd:ks.Nodup
 led:t.led=led
 pl:t.plain=true
theorem Tp.fits{t:Fb}{es:Array (Int×DM)}(T:Tp t (es.toList.map (·.1)))(h:es.size<=t.mask):t.fits es.size=true:=by
 have h1:=T.sz;have h3:=T.dm;simp at h1;unfold ML KO;rw[h3];simp;omega
theorem Tp.full{t:Fb}{es:Array (Int×DM)}(T:Tp t (es.toList.map (·.1))):t.tooFull=decide (es.size*5≥t.mask*3):=by
 have h1:=T.sz;simp at h1;unfold SetTable.tooFull KO;rw[T.dm,h1];simp
theorem xb{es:Array (Int×DM)}{order:Array Nat}(h:order.toList.Perm (F2 es.size)):(order.filterMap (es[·]?)).toList=order.toList.map fun i=>es.toList.getD i (0,.none):=by
 rw[Array.toList_filterMap];have:∀i∈order.toList,i<es.size:=fun i hi=>by have:=h.mem_iff.mp hi;simpa using this
 generalize order.toList=l at this;clear h
 induction l with
 |nil=>rfl
 |cons i l ih=>
  have hi:=this i<|E5 ..;rw[GK,E7 hi,EY,ih fun j hj=>this j<|E9 _ hj];congr 1;rw[Ff,DO (by simpa using hi)];rfl
theorem lj{α:Type}(l:List α)(d:α):(F2 l.length).map (fun i=>l.getD i d)=l:=by
 apply FJ;intro i;rw[DU];by_cases z:i<l.length
 ·rw[Gm z,DO z];simp[Ff,z]
 ·rw[F0 (by simpa using z),F0 (by simpa using z)];rfl
theorem TupsOf.order{h:Heap}{es:List (Int×DM)}{ks:List (List K)}(U:TupsOf knd h es ks){l:List Nat}(hl:l.Perm (F2 es.length)):TupsOf knd h (l.map fun i=>es.getD i (0,.none)) (l.map fun i=>ks.getD i []):=by
 refine⟨by simp,fun i e he=>?_⟩;rw[DU]at he;obtain⟨j,hj,e1⟩:=EO.mp he;have hlt:j<es.length:=by have:=hl.mem_iff.mp<|Ek hj;simpa using this
 obtain⟨k,b,q1,q2,q3,q4⟩:=U.at_ j es[j] (DO hlt);have e2:e=es[j]:=by rw[<-e1,Ff,DO hlt];rfl
 subst e2;refine⟨k,b,?_,q2,q3,q4⟩;rw[DU,hj];simp[Ff,q1]
theorem uP{a:Addr}{o:Obj}{es es1:Array (Int×DM)}{ep n:Nat}{t t1:Fb}{led:Bool}{ks1:List (List K)}(ho:s.heap.get? a=some o)(hex:o.ExactSet)(hd:o.data=.set es ep t)(T1:Tp t1 (es1.toList.map (·.1)))(U1:TupsOf knd s.heap es1.toList ks1)(nd1:ks1.Nodup)(hl:t1.led=led)(hpl:t1.plain=true)(hn:es1.size=n)(h0:0<n)(h63:n<=1000)(hr:(n-1)*5<t1.mask*3){Q:Bool->DN->Prop}
  (h:∀h' ks' o' es' ep' t',E6 a s.heap h'->SetT knd h' a led ks' o' es' ep' t'->ks'.Perm ks1->es'.toList.Perm es1.toList->Q true {s with heap:=h'}):
  wpAny (model prog w) A (do
    storeSet a es1 t1
    if(!false&&t1.tooFull)=true then setRelay a (HA n)
    pure true) Q E s:=by
 have put:∀(s:DN)(o:Obj)es ep t(es':Array (Int×DM))(t':Fb),s.heap.get? a=some o->o.data=.set es ep t->(s.heap.update a<|Jc es' t').get? a=some {o with data:=.set es' (ep+1) t'}:=fun s o es ep t es' t' ho hd=>by
  have:=FN (Jc es' t') ho (by rw[putSet_of es' t' hd];rfl);rw[putSet_of es' t' hd]at this;exact this
 have big:1000<=sizeLine:=by rw[F3];omega
 have mk:=T1.msk;refine DF (Ln ho hd ?_ (by omega));have ho1:=put s o es ep t es1 t1 ho hd;have sb1:=F8 s.heap a<|Jc es1 t1;have U2:=U1.keep ho hd sb1;rw[T1.full];by_cases z:es1.size*5≥t1.mask*3
 ·rw[decide_eq_true z,if_pos (by rfl)];unfold setRelay;refine DF (DF (FK ho1 rfl (T1.fits (by rcases mk with y|y|y|y|y<;>omega)) ?_));dsimp only;have hw:HU (HA n)<=2048/\isMask (HU (HA n)-1)/\n*5<(HU (HA n)-1)*3:=by
   rcases mk with y|y|y|y|y
   ·have:n=5:=by omega
    subst this;exact⟨by decide,.inr (.inl (by decide)),by decide⟩
   ·have:n=19:=by omega
    subst this;exact⟨by decide,.inr (.inr (.inl (by decide))),by decide⟩
   ·have:n=77:=by omega
    subst this;exact⟨by decide,.inr (.inr (.inr (.inl (by decide)))),by decide⟩
   ·have:n=307:=by omega
    subst this;exact⟨by decide,.inr (.inr (.inr (.inr (by decide)))),by decide⟩
   ·omega
  rw[if_neg (by have:=hw.1;rw[F3];omega)];obtain⟨t2,order,e2,m2,l2,p2,pm,T2⟩:=x9 hw.2.1 (hs:=es1.map (·.1)) (by simp;omega) t1.finger (t1.movedTo<|HU (HA n)-1) t1.led t1.plain;have er:t1.relaid (es1.map (·.1)) (HA n)=some (t2,order):=e2;have pm':order.toList.Perm (F2 es1.size):=by simpa using pm
  have fm:=xb (es:=es1) pm';have fs:(order.filterMap (es1[·]?)).size=es1.size:=by
   rw[<-Eu,fm,El,pm'.length_eq,Jt]
  rw[er];have key:∀(f:Array (Int×DM)->Option (Fb×Array Nat)->Sem (Array (Int×DM)×Fb))(R:(Array (Int×DM)×Fb)->DN->Prop)(s:DN),(∀es l,f es l=(do
     let some (t,order):=l|unsupported "internal:set-table-without-room"
     let es':=order.filterMap (es[·]?)
     if es'.size != es.size then unsupported "internal:set-table-lost-an-element"
     pure (es',t)))->R (order.filterMap (es1[·]?),t2) s->wpAny (model prog w) A (f es1 (some (t2,order))) R E s:=fun f R s hf hR=>by
   rw[hf];dsimp only;rw[if_neg (by rw[fs];simp)];exact DL hR
  refine DF<|key _ _ _ (fun _ _=>rfl) ?_;dsimp only;refine Ln ho1 rfl ?_ (by rw[fs];omega);have ho2:=put {s with heap:=s.heap.update a (Jc es1 t1)} _ _ _ _ (order.filterMap (es1[·]?)) t2 ho1 rfl;have sb2:=F8 (s.heap.update a<|Jc es1 t1) a (Jc (order.filterMap (es1[·]?)) t2);have U3:=U2.order (l:=order.toList) (by simpa using pm');rw[<-fm]at U3;have U4:=U3.keep ho1 rfl sb2;have pk:(order.toList.map fun i=>ks1.getD i []).Perm ks1:=by
   have:=pm'.map<|fun i=>ks1.getD i [];have hl:es1.size=ks1.length:=by have:=U1.len;simpa using this
   rw[hl,lj]at this;exact this
  have pe:(order.filterMap (es1[·]?)).toList.Perm es1.toList:=by
   rw[fm];have:=pm'.map<|fun i=>es1.toList.getD i (0,Fc);have hl:es1.size=es1.toList.length:=by simp
   rw[hl,lj]at this;exact this
  refine DL (h _ _ _ _ _ _ (sb1.trans sb2) ⟨ho2,hex,rfl,⟨?_,?_⟩,U4,pk.nodup_iff.mpr nd1,by rw[l2];exact hl,by rw[p2];exact hpl⟩ pk pe)
  ·rw[fm,FX];have:((fun x:Int×DM=>x.1)∘fun i=>es1.toList.getD i (0,.none))=fun i=>(es1.map (·.1)).toList.getD i 0:=funext fun i=>by
    simp only[Function.comp,Ff,LC,DU];cases es1.toList[i]? <;>rfl
   rw[this];exact T2
  ·rw[El,Eu,fs,m2];have:=hw.2.2;omega
 ·rw[decide_eq_false z,if_neg (by decide)];refine DL (h _ _ _ _ _ _ sb1 ⟨ho1,hex,rfl,⟨T1,by simp;omega⟩,U2,nd1,hl,hpl⟩ (.refl _)<|.refl _)
theorem xc{a x:Addr}{o:Obj}{es:Array (Int×DM)}{ep:Nat}{t:Fb}{led:Bool}{ks:List (List K)}{kx:List K}(hu:A.units<cLine)(S:SetT knd s.heap a led ks o es ep t)(hn:es.size<1000)(hx:Gv knd s.heap kx x)(hI:∀k∈kx,∀v,knd.is k v=true->∃i t,v=.int i t)
  {Q:Bool->DN->Prop} {fuel:Nat}
  (h1:kx∈ks->Q false s) (h2:kx∉ks->∀h' ks' o' es' ep' t',E6 a s.heap h'->SetT knd h' a led ks' o' es' ep' t'->ks'.Perm (kx::ks)->es'.toList.Perm ((tupleKeyHash knd kx,.ref x)::es.toList)->Q true {s with heap:=h'}):
  wpAny (model prog w) A (setAddHashedIn a (.ref x) (tupleKeyHash knd kx)<|fuel+1) Q E s:=by
 unfold setAddHashedIn;refine DF<|FK S.at_ S.dat S.tab.fits ?_;dsimp only;rw[if_neg (by unfold byScan;simp[Value.scannable])];obtain⟨G,g1,g2,g3⟩:=S.tab.gap<|uI t<|tupleKeyHash knd kx;have mem:∀i,i<es.size->ks[i]? =some kx->∃k,k<G/\t.place.getD i 0=(itM t.mask k<|t.probeStart<|tupleKeyHash knd kx).j:=fun i hi z=>by
  have hi':i<es.toList.length:=by simpa using hi
  obtain⟨k,b,q1,q2,q3,q4⟩:=S.tup.at_ i es.toList[i] (DO hi');rw[q1]at z;cases z;obtain⟨n,r1,r2⟩:=S.tab.reach i (tupleKeyHash knd kx) (by rw[DU,DO hi',<-q4];rfl);refine⟨n,?_,r1.symm⟩;by_cases y:n<G;·exact y
  ·by_cases y2:n=G
   ·subst y2;refine absurd ?_ g2;rw[r1];exact⟨i,by have:=S.tab.sz;simp at this;omega,rfl⟩
   ·exact absurd (r2 G (by omega)) g2
 refine DF ?_;unfold setSearch;have ht:t.mask<=2047:=by rcases S.tab.msk with z|z|z|z|z<;>omega
 refine oT (knd:=knd) hu S.at_ S.dat S.tab S.tup hx (fun l Q hl h=>uN hx l (fun y hy=>?_) h) 100000 G none rfl (by unfold Fx at g1;omega) g1 g2 g3 ?_ ?_
 ·obtain⟨e,he,rfl⟩:=hl y hy;obtain⟨i,hi,rfl⟩:=Ge.mp he;obtain⟨k,b,q1,q2,q3,q4⟩:=S.tup.at_ i es.toList[i] (DO hi);exact⟨k,b,q2,q3⟩
 ·rintro ⟨k,i,_,_,hq⟩;exact DL<|h1<|Ek hq
 ·intro hall;have nin:kx∉ks:=fun hm=>by
   obtain⟨i,hi,e⟩:=Ge.mp hm;have hi':i<es.size:=by have:=S.tup.len;simp at this;omega
   have hq:ks[i]? =some kx:=by rw[DO hi,e]
   obtain⟨k,q1,q2⟩:=mem i hi' hq;exact hall k i q1 q2 hi' hq
  refine DF<|FK S.at_ S.dat S.tab.fits ?_;dsimp only;have jle:(itM t.mask G<|t.probeStart<|tupleKeyHash knd kx).j<=t.mask:=yx (m:=t.mask) (h:=tupleKeyHash knd kx) G;obtain⟨p1,p2,p3⟩:=S.tab.put g2 jle g3;have led1:(t.put (itM t.mask G<|t.probeStart<|tupleKeyHash knd kx).j).1.led=t.led:=rfl;simp only[JK];generalize hP:t.put (itM t.mask G<|t.probeStart<|tupleKeyHash knd kx).j=P at*
  obtain⟨t1,p⟩:=P;dsimp only at p1 p2 p3 led1;have hp:p<=es.size:=by simpa using p1
  have il:=k6 es p (tupleKeyHash knd kx,F1 x);have T1:Tp t1 ((Fv es p (tupleKeyHash knd kx,F1 x)).toList.map (·.1)):=by
   rw[il,LU,EY,List.map_take,List.map_drop];exact p3
  have U1:TupsOf knd s.heap (Fv es p (tupleKeyHash knd kx,F1 x)).toList (ks.take p++kx::ks.drop p):=by
   have hlen:=S.tup.len;have hp2:p<=ks.length:=by simp at hlen;omega
   rw[il];refine⟨by simp[hlen],fun i e he=>?_⟩;have l1:(es.toList.take p).length=p:=by simp;omega
   have l2:(ks.take p).length=p:=by simp;omega
   by_cases z:i<p
   ·rw[Ef (by omega),EC z]at he;obtain⟨k,b,q⟩:=S.tup.at_ i e he;exact⟨k,b,by rw[Ef (by omega),EC z];exact q.1,q.2⟩
   ·rw[Ea (by omega),l1]at he;rw[Ea (by omega),l2];by_cases y:i=p
    ·rw[y,Ic,GW]at he ⊢;cases he;exact⟨kx,x,rfl,rfl,hx,rfl⟩
    ·rw[show i- p=(i- p- 1)+1 by omega,GV,EZ]at he ⊢;exact S.tup.at_ _ e he
  have pk:(ks.take p++kx::ks.drop p).Perm (kx::ks):=LD.trans (.cons kx (by rw[Kf]));have nd1:(ks.take p++kx::ks.drop p).Nodup:=pk.nodup_iff.mpr<|G1.mpr ⟨nin,S.nd⟩;have room:=S.tab.room;have pl1:t1.plain=true:=by have:=S.pl;rw[<-this];have e:=congrArg (fun z:Fb×Nat=>z.1.plain) hP;exact e.symm
  rw[if_pos pl1];refine DF<|uO hI hx ?_;exact uP S.at_ S.ex S.dat T1 U1 nd1 (led1.trans S.led) pl1 (eE es hp _) (by omega) (by omega) (by rw[p2];simpa using room) fun h' ks' o' es' ep' t' a1 a2 a3 a4=>h2 nin h' ks' o' es' ep' t' a1 a2 (a3.trans pk) (a4.trans (by rw[il];exact LD.trans (.cons _ (by rw[Kf]))))
end
end Wb
namespace Wb
open PySem PySem.W PySem.Calls PyProof.Rows
theorem sl_next:Slot "set_iterator" "__next__" "set_iterator.__next__":=
 .of (owner:="set_iterator") (n:="__next__") (by rw[LV,Kg];kernel_rfl) (by decide +kernel) (by decide +kernel) (by decide +kernel)
  (by first|exact .inl (by decide +kernel)|exact .inr (by decide +kernel)) (by rw[Kx];kernel_rfl)
theorem qt:Slot "set_iterator" "__iter__" "set_iterator.__iter__":=
 .of (owner:="set_iterator") (n:="__iter__") (by rw[LV,Kg];kernel_rfl) (by decide +kernel) (by decide +kernel) (by decide +kernel)
  (by first|exact .inl (by decide +kernel)|exact .inr (by decide +kernel)) (by rw[Kx];kernel_rfl)
theorem qu:entryFor table "set_iterator.__next__"=some Fw.«set_iterator.__next__»:=entryFor_of_tree (by kernel_rfl)
theorem xf:entryFor table "set_iterator.__iter__"=some Fw.«dict_keyiterator.__iter__»:=Mb (id':="dict_keyiterator.__iter__") (by kernel_rfl) rfl (by decide +kernel) (by kernel_rfl)
theorem zF:entryFor table "set.__iter__"=some Fw.«frozenset.__iter__»:=Mb (id':="frozenset.__iter__") (by kernel_rfl) rfl (by decide +kernel) (by kernel_rfl)
theorem qv:Manifest.owners.lookup (String.ofList ['r','o','t','a','r','e','t','i','_','t','e','s'].reverse)=some Manifest.sig_set_iterator:=by kernel_rfl
theorem qw(a:DM):argsOk "set_iterator.__next__" ⟨[a],[]⟩:=by
 unfold argsOk;rw[K7 (id:="set_iterator.__next__") (n:=['_','_','t','x','e','n','_','_']) (o:=['r','o','t','a','r','e','t','i','_','t','e','s']) (by kernel_rfl) qv];kernel_rfl
theorem xg(a:DM):argsOk "set_iterator.__iter__" ⟨[a],[]⟩:=by
 unfold argsOk;rw[K7 (id:="set_iterator.__iter__") (n:=['_','_','r','e','t','i','_','_']) (o:=['r','o','t','a','r','e','t','i','_','t','e','s']) (by kernel_rfl) qv];kernel_rfl
theorem k9{α:Type}:∀(l:List α)(i:Nat)(h:i<l.length),(l[i]::l.eraseIdx i).Perm l
 |a::l,0,_=>.refl _
 |a::l,i+1,h=>by
  have h2:i<l.length:=by simpa using h
  exact(List.Perm.swap a l[i] (l.eraseIdx i)).trans (.cons a<|k9 l i h2)
theorem ll{α:Type}(next:Nat->Nat):∀(fuel k:Nat)(left:List α)(out:Array α),fuel=left.length->(Lo next fuel k left out).toList.Perm (out.toList++left)
 |0,k,left,out,h=>by
  have:left=[]:=GO.mp h.symm;subst this;unfold Lo;simp
 |fuel+1,k,left,out,h=>by
  unfold Lo;have hl:next k%left.length<left.length:=Ja _ (by omega)
  rw[DO hl];dsimp only;refine(ll next fuel (k+1) _ _ (by rw[Ky];simp[hl];omega)).trans ?_;rw[Gg,Eb];refine Fu _ ?_;exact k9 left _ hl
def d6(w:E8)(a:Addr)(ep:Nat)(es:Array (Int×DM)):Array (Int×DM):=if w.params.followText "set-order"=true then pickOrder (w.params.setOrder a ep) es else es
theorem ig(w:E8)(a:Addr)(ep:Nat)(es:Array (Int×DM)):(d6 w a ep es).toList.Perm es.toList:=by
 unfold d6;split
 ·have:=ll (w.params.setOrder a ep) es.size 0 es.toList #[] (by simp);simp only[LW]at this;exact this
 ·exact .refl _
def bU(w:E8)(t:Fb)(i:Nat):Int:=if w.params.followText "set-order"=true then 0 else if i=0 then 0 else(t.place.getD (i-1) 0:Int)+1
theorem oU{w:E8}{t:Fb}{hs:List Int}(T:Tp t hs)(hb:¬w.params.followText "set-order"=true){i:Nat}(hi:i<=t.place.size):Fp t.place (bU w t i).toNat=i:=by
 obtain⟨b0,b1,b2⟩:=i9 T.up (bU w t i).toNat;generalize hB:Fp t.place (bU w t i).toNat=b at*
 have e:(bU w t i).toNat=if i=0 then 0 else t.place.getD (i-1) 0+1:=by
  unfold bU;rw[if_neg hb];split<;>omega
 rw[e]at b1 b2;by_cases z:i=0
 ·rw[if_pos z]at b1;by_cases y:b=0;·omega
  ·have:=b1 0 (by omega);omega
 ·rw[if_neg z]at b1 b2;by_cases y:b<i
  ·have:=b2 (i- 1) (by omega) (by omega);omega
  ·by_cases y2:i< b
   ·have h1:=b1 i y2;have h2:=T.up (i-1) i (by omega) (by omega);omega
   ·omega
def kf(w:E8)(a:Addr)(t:Fb)(n ep i:Nat):Obj:={cls:=.type "set_iterator",dict:=none,data:=.fields #[.int (bU w t i) 0,.int i 0,.ref a,.int n 0,.int ep 0],slots:= #[]}
section
variable{prog:E4}{w:E8}{A:EB}{E:DM->DN->Prop}{s:DN}{a I:Addr}{o:Obj}{es:Array (Int×DM)}{ep:Nat}{t:Fb}
theorem nH{i:Nat}{Q:Option (DM×Nat)->DN->Prop}(ho:s.heap.get? a=some o)(hd:o.data=.set es ep t)(T:Tp t (es.toList.map (·.1)))(hf:t.fits es.size=true)(hl:t.led= !w.params.followText "set-order")(hp:t.plain=true)(hi:i<=es.size)
  (h:Q (((d6 w a ep es)[i]?).map fun e=>(e.2,(bU w t<|i+1).toNat)) s):wpAny (model prog w) A (setNext a (bU w t i).toNat i ep) Q E s:=by
 have hsz:t.place.size=es.size:=by have:=T.sz;simpa using this
 unfold setNext;refine DF<|FK ho hd hf ?_;dsimp only;unfold setsByText;refine DF<|DF<|GU<|DL ?_;show wpAny (model prog w) A (if w.params.followText "set-order"=true then _ else _) Q E s;by_cases z:w.params.followText "set-order"=true
 ·rw[if_pos z,if_neg (by simp)];unfold setWalk;refine DF<|DF<|FK ho hd hf ?_;dsimp only;unfold setsByText;refine DF<|DF<|GU<|DL ?_;show wpAny (model prog w) A (if w.params.followText "set-order"=true then _ else _) _ E s;rw[if_pos z];refine DF<|GU<|DL<|DL ?_;unfold d6 bU at h;rw[if_pos z,if_pos z]at h;unfold bU;rw[if_pos z];exact h
 ·rw[if_neg z];refine IP (fun hab=>absurd hab (show ¬((!t.plain&&decide (es.size>1))=true) by rw[hp];simp))<|fun _=>?_;show wpAny _ _ ((if(!t.led&& !es.isEmpty)=true then unsupported _ else pure ())>>=_) _ _ _;rw[if_neg (by rw[hl];simp[z])];refine DF<|DL ?_;rw[oU T z (by omega)];unfold d6 at h;rw[if_neg z]at h;by_cases y:i<es.size
  ·have y2:i< t.place.size:=by omega
   rw[E7 y]at h ⊢;rw[E7 y2];have e:(bU w t<|i+1).toNat=t.place[i]+1:=by
    unfold bU;rw[if_neg z,if_neg (by omega),show i+1-1=i by omega];have:t.place.getD i 0=t.place[i]:=by simp[Gj,y2]
    omega
   simp only[Hj,e]at h;exact DL h
  ·rw[Hg (by omega)]at h ⊢;exact DL h
end
section
variable{prog:E4}{w:E8}{A:EB}{E:DM->DN->Prop}{s:DN}{a I:Addr}{o:Obj}{es:Array (Int×DM)}{ep:Nat}{t:Fb}
theorem kg{n i:Nat}(h:s.heap.get? I=some (kf w a t n ep i)):s.TypeIs (.ref I) "set_iterator":=⟨_,h,rfl⟩
structure SetR(w:E8)(o:Obj)(es:Array (Int×DM))(ep:Nat)(t:Fb):Prop where
 ex:o.ExactSet
 dat:o.data=.set es ep t
 tab:Tb t (es.toList.map (·.1))
 led:t.led= !w.params.followText "set-order"
 pl:t.plain=true
theorem uQ{Q:DM->DN->Prop}(R:SetR w o es ep t)(ho:s.heap.get? a=some o)(h:Q (.ref s.heap.objs.size) {s with heap:=s.heap.push (kf w a t es.size ep 0)}):wpAny (model prog w) A (pyIter<|.ref a) Q E s:=by
 have hT:s.TypeIs (.ref a) "set":=⟨o,ho,R.ex.1⟩
 refine Ie hT LX<|EH LX hT zF ?_<|F.args_set_iter_1 _;unfold Fw.«frozenset.__iter__»;refine DF (m:=MT _ _)<|DL ?_;unfold MN;refine DF<|DF<|IW ho R.dat R.tab.fits<|DL ?_;unfold setDrawn;refine DF<|DF<|FK ho R.dat R.tab.fits ?_;dsimp only;unfold setsByText;refine DF<|DF<|GU<|DL<|DL ?_;refine IP (fun hab=>absurd hab (show ¬((!w.params.followText "set-order"&&(!t.plain&&decide (es.size>1)))=true) by rw[R.pl];simp))<|fun _=>?_;refine DF<|DL ?_;refine DF<|wpAny_setEpoch_of ho R.dat R.tab.fits ?_;have e0:bU w t 0=0:=by unfold bU;split<;>rfl
 refine DF<|F4<|DL ⟨_,rfl,"set_iterator",_,⟨_,DS _ rfl,rfl⟩,sl_next.lookup,?_⟩;unfold kf at h;rw[e0]at h;exact h
theorem rZ{i:Nat}{Q:Option DM->DN->Prop}(R:SetR w o es ep t)(ho:s.heap.get? a=some o)(hne:a≠I)(hI:s.heap.get? I=some (kf w a t es.size ep i)){e:Int×DM}(he:(d6 w a ep es)[i]? =some e)
  (h:∀h',h'.get? I=some (kf w a t es.size ep<|i+1)->E6 I s.heap h'->Q (some e.2) {s with heap:=h'}):wpAny (model prog w) A (pyNext<|.ref I) Q E s:=by
 have hsz:(d6 w a ep es).size=es.size:=by have:=(ig w a ep es).length_eq;simpa using this
 have hi:i<es.size:=by have:=(G0.mp he).1;omega
 have hT:=kg hI;unfold pyNext;refine DF (Gr (ET (name:=DP "__next__") hT sl_next
  (EH sl_next hT qu ?_ (qw _))))
 unfold Fw.«set_iterator.__next__»;refine DF (m:=slotArgs _ _ _)<|DL ?_;refine DF<|Jd hI rfl ?_;dsimp only;refine DF<|IW ho R.dat R.tab.fits ?_;rw[if_neg (by simp)];show wpAny _ _ (setNext a (bU w t i).toNat ((i:Int).toNat) ((ep:Int).toNat)>>=_) _ _ _;rw[Fj,Fj];refine DF (nH ho R.dat R.tab.toTp R.tab.fits R.led R.pl (by omega) ?_);rw[he];dsimp only[Hj];refine DF (GP hI rfl (by simp) ?_);have hI1:=FN (JE (·.setIfInBounds 0 (rawInt ((bU w t<|i+1).toNat:Int)))) hI rfl;refine DF (GP hI1 rfl (by simp) ?_);have hI2:=FN (JE (·.setIfInBounds 1 (rawInt<|(i:Int)+1))) hI1 rfl;refine DL ⟨_,rfl,DL<|h _ (hI2.trans ?_)<|(F8 ..).trans (F8 ..)⟩;have e1:((bU w t<|i+1).toNat:Int)=bU w t (i+1):=by unfold bU;split<;>(try split)<;>omega
 rw[e1];rfl
theorem uR{Q:Option DM->DN->Prop}(hh:A.handled=none)(R:SetR w o es ep t)(ho:s.heap.get? a=some o)(hne:a≠I)(hI:s.heap.get? I=some (kf w a t es.size ep es.size))
  (h:∀h',Hx I s.heap h'->Q none {s with heap:=h'}):wpAny (model prog w) A (pyNext<|.ref I) Q E s:=by
 have hsz:(d6 w a ep es).size=es.size:=by have:=(ig w a ep es).length_eq;simpa using this
 have hT:=kg hI;unfold pyNext;refine DF (Gr (ET (name:=DP "__next__") hT sl_next
  (EH sl_next hT qu ?_ (qw _))))
 unfold Fw.«set_iterator.__next__»;refine DF (m:=slotArgs _ _ _)<|DL ?_;refine DF<|Jd hI rfl ?_;dsimp only;refine DF<|IW ho R.dat R.tab.fits ?_;rw[if_neg (by simp)];show wpAny _ _ (setNext a (bU w t es.size).toNat ((es.size:Int).toNat) ((ep:Int).toNat)>>=_) _ _ _;rw[Fj,Fj];refine DF (nH ho R.dat R.tab.toTp R.tab.fits R.led R.pl (by omega) ?_);rw[Hg (by omega)];dsimp only[Option.map_none];refine DF (GP hI rfl (by simp) ?_);show wpAny _ _ (newExc (.type "StopIteration") []>>=_) _ _ _;refine DF ?_;simp only[newExc,newTuple];refine DF (F4 ?_ (by size_fits));refine DF (m:=firstArgMember _ _) (Kv (a:=Fc) (by first|rfl|(simp only[firstArgMember];rfl)) ?_);refine F4 ?_ (by size_fits);simp only[raiseNew];refine DF<|KL ?_;rw[show A.in1.handled=none from hh];refine DF<|DL<|LK ?_;refine DF<|G7 (T:="StopIteration") (b:=true) ⟨_,DS _ rfl,rfl⟩ GR ?_;exact DL<|h _<|((F8 ..).extBut.push _).push _
theorem Walks.setOf(hh:A.handled=none)(I a:Addr)(hne:a≠I)(R:SetR w o es ep t):
  Walks prog w A I [I,a] [I] es.size (fun i v=>∃e,(d6 w a ep es)[i]? =some e/\v=e.2) (fun i h=>h.get? I=some (kf w a t es.size ep i)/\h.get? a=some o) where
 sub:=fun b hb=>by simp at hb;simp[hb]
 frame:=fun _ _ _ st hk=>⟨hk I (by simp) _ st.1,hk a (by simp) _ st.2⟩
 item:=fun i s Q E hi st hQ=>by
  have hsz:(d6 w a ep es).size=es.size:=by have:=(ig w a ep es).length_eq;simpa using this
  have he:(d6 w a ep es)[i]? =some (d6 w a ep es)[i]:=E7 (by omega);refine rZ R st.2 hne st.1 he fun h' hI' hs'=>?_;exact hQ _ h' s.toks ⟨_,he,rfl⟩ ⟨hI',hs'.extBut a _ hne st.2⟩ fun b o hb e=>hs'.extBut b o (fun h=>hb (by simp[h])) e
 done:=fun s Q E st hQ=>uR hh R st.2 hne st.1 fun h' he'=>hQ h' s.toks fun b o hb e=>he' b o (fun h=>hb (by simp[h])) e
 self:=fun i s Q E st hQ=>by
  refine Ie (kg st.1) qt<|EH qt (kg st.1) xf ?_<|xg _;show wpAny _ _ (ret<|.ref I) _ _ s;exact DL ⟨_,rfl,"set_iterator",_,kg st.1,sl_next.lookup,hQ⟩
theorem uS{Q:Bool->DN->Prop}(hT:s.TypeIs (.ref a) "set")(h:Q false s):wpAny (model prog w) A (IY<|.ref a) Q E s:=by
 unfold IY;refine DF<|IJ hT F.slot_set_len.lookup ?_;generalize hid:("set.__len__" :String)=id0
 wp_delta
 rw[show splitId id0=some ("set","__len__")from by subst hid;decide +kernel];subst hid;refine DF (G7 (T:="set") (b:=true) hT (by rw[Kx];kernel_rfl) ?_);refine IP (fun hab=>absurd hab (by decide))<|fun _=>?_;refine IP (fun _=>?_) (fun hab=>absurd (by decide +kernel) hab);refine DF<|wpAny_typeOf hT ?_;exact DL h
theorem xh(R:SetR w o es ep t):KdlSrc prog w "set" a a es.size (fun i v=>∃e,(d6 w a ep es)[i]? =some e/\v=e.2) (fun h=>h.get? a=some o) where
 type:=fun _ hm=>⟨o,hm,R.ex.1⟩
 there:=fun _ hm=>⟨DW hm,DW hm⟩
 keep:=fun _ _ hm hk=>hk a (.inl rfl) o hm
 notList:=by decide
 notTuple:=by decide
 hint:=fun _ _ _ _ hm hq=>uS ⟨o,hm,R.ex.1⟩ hq
 iter:=fun _ _ hh hm=>⟨_,_,(fun _ _ hq=>uQ R hm hq),Walks.setOf hh _ a (Ed<|DW hm) R,⟨DS _ rfl,DH _ hm⟩⟩
end
def PairAt(h:Heap)(v:DM)(k:Int×Int):Prop:=∃b o t1 t2 n,v=.ref b/\h.get? b=some o/\o.cls=.type "tuple"/\o.data=.seq #[.int k.1 t1,.int k.2 t2] n
def mK(a b:Int×Int):Bool:=decide (a.1<b.1)||(decide (a.1=b.1)&&decide (a.2<b.2))
theorem jn{a b:Int×Int}:mK a b=true↔a.1<b.1\/(a.1=b.1/\a.2<b.2):=by unfold mK;simp
theorem zG{a b c:Int×Int}(h:mK a b=true)(h':mK b c=true):mK a c=true:=by rw[jn]at *;omega
theorem xi{a b:Int×Int}(hn:a≠b)(h:mK a b=false):mK b a=true:=by
 have h2:¬mK a b=true:=by rw[h];decide
 rw[jn]at h2;rw[jn];by_cases z:a.1=b.1
 ·have:a.2≠b.2:=fun e=>hn<|J9 z e;omega
 ·omega
theorem qx(a:Int×Int):mK a a=false:=by unfold mK;simp
structure PairsAt(h:Heap)(vs:List DM)(ks:List (Int×Int)):Prop where
 len:vs.length=ks.length
 at_:∀(i:Nat)(v:DM),vs[i]? =some v->∃k,ks[i]? =some k/\PairAt h v k
section
variable{prog:E4}{w:E8}{A:EB}{E:DM->DN->Prop}{s:DN}
theorem xj{x y:DM}{k l:Int×Int}{Q:Bool->DN->Prop}(hx:PairAt s.heap x k)(hy:PairAt s.heap y l)(h:Q (mK k l) s):wpAny (model prog w) A (keyLt' (tuples' true) x y) Q E s:=by
 obtain⟨bx,ox,t1,t2,n,rfl,hx,_,dx⟩:=hx;obtain⟨by_,oy,u1,u2,m,rfl,hy,_,dy⟩:=hy;refine kat_lt hx dx hy dy<|kat_cons<|JJ<|kat_go (fun e=>kat_yes<|kat_cons<|JJ<|kat_go (fun e'=>kat_yes<|kat_nil ?_) fun e'=>kat_no<|kat_one _ _<|lt_int ?_) fun e=>kat_no<|oneLt_int ?_
 ·have e1:k.1=l.1:=by simpa using e
  have e2:k.2=l.2:=by simpa using e'
  have:k=l:=J9 e1 e2;subst this;rw[qx]at h;simpa using h
 ·have e1:k.1=l.1:=by simpa using e
  show Q (decide<|k.2<l.2) s;unfold mK at h;simpa [e1] using h
 ·have e1:¬k.1=l.1:=by simpa using e
  unfold mK at h;simpa [e1] using h
theorem qy{h:Heap}:∀{vs:List DM}{ks:List (Int×Int)},PairsAt h vs ks->∃fs,fs.length=vs.length/\KatTups h vs fs/\∀f∈fs,∃i t,f=HD i t
 | [],ks,P=>⟨[],rfl,trivial,fun f hf=>by cases hf⟩
 |v::vs,ks,P=>by
  obtain⟨k,q1,b,o,t1,t2,n,rfl,q3,q4,q5⟩:=P.at_ 0 v rfl;obtain⟨fs,l1,l2,l3⟩:=qy (h:=h) (vs:=vs) (ks:=ks.drop 1) ⟨by have:=P.len;simp at this ⊢;omega,fun i v e=>by
   obtain⟨k,a1,a2⟩:=P.at_ (i+1) v (by simpa using e);exact⟨k,by rw[EZ,MY];exact a1,a2⟩⟩
  refine⟨.int k.1 t1::fs,by simp[l1],.cons q3 q4 q5 (by simp) l2,fun f hf=>?_⟩;rcases E1.mp hf with rfl|hf
  ·exact⟨_,_,rfl⟩
  ·exact l3 f hf
end
end Wb
namespace Wb
open PySem PyProof.Rows
abbrev at'(xs:Array E2)(i:Nat):E2:=xs.getD i (Fc,Fc)
structure LtOk(M:K5)(A:EB)(E:DM->DN->Prop)(s:DN)(κ:IB)(U:E2->Prop)(L:E2->E2->Bool):Prop where
 lt:∀(x y:E2)(st:FI)(Q:Option Bool->FI->Prop),U x->U y->kindOf st=κ->Q (some<|L x y) st->wpS M A E s (lt' x y) Q st
 tr:∀x y z,U x->U y->U z->L x y=true->L y z=true->L x z=true
 tot:∀x y,U x->U y->x≠y->L x y=false->L y x=true
 irr:∀x,L x x=false
structure SB(κ:IB)(a0:List E2)(st:FI):Prop where
 kind:kindOf st=κ
 failed:failedOf st=none
 perm:(arrOf st).toList.Perm a0
def Sr(L:E2->E2->Bool)(xs:Array E2)(a b:Nat):Prop:=∀i j,a<=i->i<j->j<b->L (at' xs i) (at' xs j)=true
theorem cU{xs:Array E2}{i:Nat}(h:i<xs.size):xs[i]? =some (at' xs i):=by simp[Gj,h]
theorem eX{xs:Array E2}{i:Nat}(h:i<xs.size):at' xs i=xs.toList[i]'(by simpa using h):=by simp[Gj,h]
section
variable{M:K5}{A:EB}{E:DM->DN->Prop}{s:DN}{κ:IB}{U:E2->Prop}{L:E2->E2->Bool}{a0:List E2}{st:FI}
theorem SB.size(B:SB κ a0 st):(arrOf st).size=a0.length:=by rw[<-Eu];exact B.perm.length_eq
theorem SB.u(B:SB κ a0 st)(hU:∀x∈a0,U x){i:Nat}(hi:i<a0.length):U (at' (arrOf st) i):=by
 have h:=B.size;rw[eX (by omega)];exact hU _<|B.perm.mem_iff.mp<|G9 _
theorem AY{xs:Array E2}(nd:xs.toList.Nodup){i j:Nat}(hi:i<xs.size)(hj:j<xs.size)(hij:i≠j):at' xs i≠at' xs j:=by
 rw[eX hi,eX hj];have pw:=G4.mp<|ES.mp nd;rcases Nat.lt_or_gt_of_ne hij with z|z
 ·exact pw i j _ _ z
 ·exact fun e=>pw j i _ _ z e.symm
theorem SB.ne(B:SB κ a0 st)(nd:a0.Nodup){i j:Nat}(hi:i<a0.length)(hj:j<a0.length)(hij:i≠j):at' (arrOf st) i≠at' (arrOf st) j:=by
 have h:=B.size;exact AY (B.perm.nodup_iff.mpr nd) (by omega) (by omega) hij
theorem SB.set(B:SB κ a0 st){xs:Array E2}(h:xs.Perm (arrOf st)):SB κ a0 (setArr st xs):=⟨B.kind,B.failed,(Array.perm_iff_toList_perm.mp h).trans B.perm⟩
theorem bf{arr:Array E2}{i:Nat}{Q:E2->FI->Prop}(hi:i<arr.size)(h:Q (at' arr i) st):wpS M A E s (elem' arr i) Q st:=by
 rw[elem'_eq,cU hi];exact DZ h
theorem ij(O:LtOk M A E s κ U L)(hU:∀x∈a0,U x)(B:SB κ a0 st){i j:Nat}{Q:Option Bool->FI->Prop}(hi:i<a0.length)(hj:j<a0.length)(h:Q (some<|L (at' (arrOf st) i)<|at' (arrOf st) j) st):wpS M A E s (ltAt' i j) Q st:=by
 have hs:=B.size;rw[ltAt'_eq];refine DT (Ig (DT (bf (by omega) (DT (bf (by omega) ?_)))));exact O.lt _ _ _ _ (B.u hU hi) (B.u hU hj) B.kind h
theorem sd{xs:Array E2}{src d:Nat}(hs:src<xs.size)(hd:d<=src)(k:Nat):at' (bubble xs src d) k=if k=src-d then at' xs src else if src-d<k/\k<=src then at' xs (k-1)else at' xs k:=by
 simp only[at',EL];rw[getElem?_bubble hs _ hd];split;·rfl
 ·split<;>rfl
theorem se{xs:Array E2}{i j:Nat}(hj:j<=xs.size)(k:Nat):at' (mirror xs i j<|(j-i)/2) k=if i<=k/\k<j then at' xs (i+j-1-k)else at' xs k:=by
 simp only[at',EL];rw[getElem?_mirror_all hj];split<;>rfl
theorem xk(O:LtOk M A E s κ U L)(hU:∀x∈a0,U x)(nd:a0.Nodup){lo n ok:Nat}{Q:Bool->FI->Prop}(hn:lo+n<=a0.length)(hok:ok<=n)(B:SB κ a0 st)(hs:Sr L (arrOf st) lo (lo+ok))
  (h:∀st',SB κ a0 st'->pendingOf st'=pendingOf st->Sr L (arrOf st') lo (lo+n)->(∀i,i<lo\/lo+n<=i->at' (arrOf st') i=at' (arrOf st) i)->Q true st'):wpS M A E s (binarySort' lo n ok) Q st:=by
 rw[binarySort'_eq];refine DT (GX (F9 (I:=fun k c st'=>c=(none,())/\SB κ a0 st'/\pendingOf st'=pendingOf st/\Sr L (arrOf st') lo (lo+min k n)/\∀i,i<lo\/lo+n<=i->at' (arrOf st') i=at' (arrOf st) i)
  (Q:=fun c st'=>c=(none,())/\SB κ a0 st'/\pendingOf st'=pendingOf st/\Sr L (arrOf st') lo (lo+n)/\∀i,i<lo\/lo+n<=i->at' (arrOf st') i=at' (arrOf st) i) ?step ?fin ?init) ?post)
 case post=>
  rintro c st' ⟨rfl,h1,h2,h3,h4⟩;exact DZ<|h st' h1 h2 h3 h4
 case init=>
  refine⟨rfl,B,rfl,fun i j h1 h2 h3=>?_,fun i _=>rfl⟩;exact hs i j h1 h2 (by omega)
 case fin=>
  rintro c st' ⟨hc,h1,h2,h3,h4⟩;rw[show min (max (max ok 1) n) n=n by omega]at h3;exact⟨hc,h1,h2,h3,h4⟩
 case step=>
  rintro k c st' hak hkn ⟨rfl,B',hp,hs',hout⟩;rw[show min k n=k by omega]at hs';have hsz:=B'.size;refine DT (GX (F9 (I:=fun x c st''=>st''=st'/\∃l r,c=(none,l,r)/\l<=r/\r<=k/\r-l<=k-x/\
    (∀i,i<l->L (at' (arrOf st') (lo+i)) (at' (arrOf st') (lo+k))=true)/\(∀i,r<=i->i<k->L (at' (arrOf st') (lo+k)) (at' (arrOf st') (lo+i))=true))
   (Q:=fun c st''=>st''=st'/\∃l r,c=(none,l,r)/\l<=k/\
    (∀i,i<l->L (at' (arrOf st') (lo+i)) (at' (arrOf st') (lo+k))=true)/\(∀i,l<=i->i<k->L (at' (arrOf st') (lo+k)) (at' (arrOf st') (lo+i))=true)) ?istep ?ifin ?iinit) ?ipost)
  case iinit=>exact⟨rfl,0,k,rfl,by omega,by omega,by omega,fun i hi=>by omega,fun i h1 h2=>by omega⟩
  case ifin=>
   rintro c st'' ⟨rfl,l,r,rfl,hlr,hrk,hm,hlo,hhi⟩;have:l=r:=by omega
   subst this;exact⟨rfl,l,l,rfl,hrk,hlo,hhi⟩
  case istep=>
   rintro x c st'' _ hxk ⟨rfl,l,r,rfl,hlr,hrk,hm,hlo,hhi⟩;dsimp only;by_cases hge:l≥r
   ·rw[if_pos hge];have:l=r:=by omega
    subst this;exact DZ ⟨rfl,l,l,rfl,hrk,hlo,hhi⟩
   ·rw[if_neg hge];refine DT (ij O hU B' (by omega) (by omega) ?_);have uu:∀i,i<=k->U (at' (arrOf st'')<|lo+i):=fun i hi=>B'.u hU (by omega);cases hless:L (at' (arrOf st'')<|lo+k) (at' (arrOf st'')<|lo+(l+r)/2)with
    |true=>
     simp only[if_true];refine DZ ⟨rfl,l,(l+r)/2,rfl,by omega,by omega,by omega,hlo,fun i h1 h2=>?_⟩;by_cases y:i=(l+r)/2;·rw[y];exact hless
     ·exact O.tr _ _ _ (uu _ (by omega)) (uu _ (by omega)) (uu _ (by omega)) hless (hs' _ _ (by omega) (by omega) (by omega))
    |false=>
     simp only[ED,if_false];have q:=O.tot _ _ (uu _ (by omega)) (uu _ (by omega)) (B'.ne nd (by omega) (by omega) (by omega)) hless;refine DZ ⟨rfl,(l+r)/2+1,r,rfl,by omega,by omega,by omega,fun i h1=>?_,hhi⟩;by_cases y:i=(l+r)/2;·rw[y];exact q
     ·exact O.tr _ _ _ (uu _ (by omega)) (uu _ (by omega)) (uu _ (by omega)) (hs' _ _ (by omega) (by omega) (by omega)) q
  case ipost=>
   rintro c st'' ⟨rfl,l,r,rfl,hlk,hlo,hhi⟩;show wpS _ _ _ _ (do moveDown' (lo+k) (lo+l);pure (Et (none,()))) _ _;rw[moveDown'_eq];have e1:∀i,at' (bubble (arrOf st'') (lo+k)<|lo+k-(lo+l)) i=if i=lo+l then at' (arrOf st'') (lo+k)else if lo+l<i/\i<=lo+k then at' (arrOf st'') (i-1)else at' (arrOf st'') i:=fun i=>by
    rw[sd (by omega) (by omega),show lo+k-(lo+k-(lo+l))=lo+l by omega]
   refine DT<|FQ<|DZ ⟨rfl,B'.set<|bubble_perm _ _ _,hp,?_,fun i hi=>?_⟩
   ·rw[show min (k+1) n=k+1 by omega];intro i j h1 h2 h3;show L (at' (bubble (arrOf st'') (lo+k)<|lo+k-(lo+l)) i) (at' (bubble (arrOf st'') (lo+k)<|lo+k-(lo+l)) j)=true;rw[e1,e1];have hlo':∀i,lo<=i->i<lo+l->L (at' (arrOf st'') i) (at' (arrOf st'')<|lo+k)=true:=fun i h1 h2=>by
     have:=hlo (i-lo) (by omega);rwa [show lo+(i-lo)=i by omega]at this
    have hhi':∀i,lo+l<=i->i<lo+k->L (at' (arrOf st'')<|lo+k) (at' (arrOf st'') i)=true:=fun i h1 h2=>by
     have:=hhi (i-lo) (by omega) (by omega);rwa [show lo+(i-lo)=i by omega]at this
    repeat' split
    all_goals first
     |(exfalso;omega)
     |exact hlo' _ (by omega) (by omega)
     |exact hhi' _ (by omega) (by omega)
     |exact hs' _ _ (by omega) (by omega) (by omega)
   ·show at' (bubble (arrOf st'') (lo+k)<|lo+k- (lo+l)) i=_;rw[e1,if_neg (by omega),if_neg (by omega)];exact hout i hi
end
section
variable{M:K5}{A:EB}{E:DM->DN->Prop}{s:DN}{κ:IB}{U:E2->Prop}{L:E2->E2->Bool}{a0:List E2}{st:FI}
theorem AZ(O:LtOk M A E s κ U L)(hU:∀x∈a0,U x)(nd:a0.Nodup){lo nrem n0:Nat}{Q:Option (Option Nat)×Nat->FI->Prop}(hn:lo+nrem<=a0.length)(h1:1<=n0)(h2:n0<=nrem)(B:SB κ a0 st)(hs:Sr L (arrOf st) lo (lo+n0))
  (h:∀n,n0<=n->n<=nrem->Sr L (arrOf st) lo (lo+n)->(n=nrem\/L (at' (arrOf st)<|lo+n) (at' (arrOf st)<|lo+n-1)=true)->Q (none,n) st):
  wpS M A E s (forIn [n0:nrem] ((none:Option (Option Nat)),n0) fun _ c=>do
   let some smaller <-ltAt' (lo+c.2) (lo+c.2-1)|pure (Ei (some none,c.2))
   if smaller=true then pure (Ei (none,c.2))else pure (Et (none,c.2+1))) Q st:=by
 refine F9 (I:=fun x c st'=>st'=st/\c=(none,x)/\n0<=x/\x<=nrem/\Sr L (arrOf st) lo (lo+x)) ?step ?fin ⟨rfl,rfl,DQ _,h2,hs⟩
 case fin=>
  rintro c st' ⟨rfl,rfl,q1,q2,q3⟩;rw[show max n0 nrem=nrem by omega]at q3 ⊢;exact h nrem h2 (DQ _) q3<|.inl rfl
 case step=>
  rintro x c st' hx1 hx2 ⟨rfl,rfl,q1,q2,q3⟩;dsimp only;have uu:∀i,i<a0.length->U (at' (arrOf st') i):=fun i hi=>B.u hU hi;refine DT (ij O hU B (by omega) (by omega) ?_);cases hless:L (at' (arrOf st')<|lo+x) (at' (arrOf st')<|lo+x-1)with
  |true=>
   dsimp only;rw[if_pos rfl];exact DZ<|h x q1 q2 q3<|.inr hless
  |false=>
   dsimp only;rw[if_neg (by decide)];have q:=O.tot _ _ (uu _ (by omega)) (uu _ (by omega)) (B.ne nd (by omega) (by omega) (by omega)) hless;refine DZ ⟨rfl,rfl,by omega,by omega,fun i j g1 g2 g3=>?_⟩;by_cases z:j<lo+x;·exact q3 i j g1 g2 z
   ·have:j=lo+x:=by omega
    subst this;by_cases y:i=lo+x-1;·rw[y];exact q
    ·exact O.tr _ _ _ (uu _ (by omega)) (uu _ (by omega)) (uu _ (by omega)) (q3 i (lo+x-1) g1 (by omega) (by omega)) q
theorem B0(O:LtOk M A E s κ U L)(hU:∀x∈a0,U x)(nd:a0.Nodup){lo nrem n0:Nat}{Q:Option (Option Nat)×Nat×Nat->FI->Prop}(hn:lo+nrem<=a0.length)(h1:2<=n0)(h2:n0<=nrem)(B:SB κ a0 st)(hs:∀i j,lo<=i->i<j->j<lo+n0->L (at' (arrOf st) j) (at' (arrOf st) i)=true)
  (h:∀n,n0<=n->n<=nrem->(∀i j,lo<=i->i<j->j<lo+n->L (at' (arrOf st) j) (at' (arrOf st) i)=true)->Q (none,n,0) st):
  wpS M A E s (forIn [n0:nrem] ((none:Option (Option Nat)),n0,0) fun _ c=>do
   let some smaller <-ltAt' (lo+c.2.1) (lo+c.2.1-1)|pure (Ei (some none,c.2.1,c.2.2))
   if smaller=true then
    if c.2.2>0 then
     reverseSlice' (lo+c.2.1-(c.2.2+1)) (lo+c.2.1)
     pure (Et (none,c.2.1+1,0))
    else pure (Et (none,c.2.1+1,0))
   else
    let some larger <-ltAt' (lo+c.2.1-1) (lo+c.2.1)|pure (Ei (some none,c.2.1,c.2.2))
    if larger=true then pure (Ei (none,c.2.1,c.2.2))else pure (Et (none,c.2.1+1,c.2.2+1))) Q st:=by
 refine F9 (I:=fun x c st'=>st'=st/\c=(none,x,0)/\n0<=x/\x<=nrem/\∀i j,lo<=i->i<j->j<lo+x->L (at' (arrOf st) j) (at' (arrOf st) i)=true) ?step ?fin ⟨rfl,rfl,DQ _,h2,hs⟩
 case fin=>
  rintro c st' ⟨rfl,rfl,q1,q2,q3⟩;rw[show max n0 nrem=nrem by omega]at q3 ⊢;exact h nrem h2 (DQ _) q3
 case step=>
  rintro x c st' hx1 hx2 ⟨rfl,rfl,q1,q2,q3⟩;dsimp only;have uu:∀i,i<a0.length->U (at' (arrOf st') i):=fun i hi=>B.u hU hi;refine DT (ij O hU B (by omega) (by omega) ?_);cases hless:L (at' (arrOf st')<|lo+x) (at' (arrOf st')<|lo+x-1)with
  |true=>
   dsimp only;rw[if_pos rfl,if_neg (by omega)];refine DZ ⟨rfl,rfl,by omega,by omega,fun i j g1 g2 g3=>?_⟩;by_cases z:j<lo+x;·exact q3 i j g1 g2 z
   ·have:j=lo+x:=by omega
    subst this;by_cases y:i=lo+x-1;·rw[y];exact hless
    ·exact O.tr _ _ _ (uu _ (by omega)) (uu _ (by omega)) (uu _ (by omega)) hless (q3 i (lo+x-1) g1 (by omega) (by omega))
  |false=>
   dsimp only;rw[if_neg (by decide)];have q:=O.tot _ _ (uu _ (by omega)) (uu _ (by omega)) (B.ne nd (by omega) (by omega) (by omega)) hless;refine DT (ij O hU B (by omega) (by omega) ?_);rw[q];dsimp only;rw[if_pos rfl];exact DZ<|h x q1 q2 q3
theorem zH(O:LtOk M A E s κ U L)(hU:∀x∈a0,U x)(nd:a0.Nodup){lo nrem:Nat}{Q:Option Nat->FI->Prop}(hn:lo+nrem<=a0.length)(h1:1<=nrem)(B:SB κ a0 st)
  (h:∀n st',1<=n->n<=nrem->SB κ a0 st'->pendingOf st'=pendingOf st->Sr L (arrOf st') lo (lo+n)->(∀i,i<lo\/lo+nrem<=i->at' (arrOf st') i=at' (arrOf st) i)->Q (some n) st'):wpS M A E s (countRun' lo nrem) Q st:=by
 rw[countRun'_eq];refine DT (AZ O hU nd hn (DQ _) h1 B (fun i j g1 g2 g3=>by omega) fun n n1 n2 n3 n4=>?_);dsimp only;by_cases z:n=nrem
 ·rw[if_pos (by simpa using z)];exact DZ<|h n st n1 n2 B rfl n3 fun _ _=>rfl
 rw[if_neg (by simpa using z)];have n5:L (at' (arrOf st)<|lo+n) (at' (arrOf st)<|lo+n-1)=true:=n4.resolve_left z;by_cases y:n>1
 ·rw[if_pos y];refine DT (ij O hU B (by omega) (by omega) ?_);rw[n3 lo (lo+n-1) (DQ _) (by omega) (by omega)];dsimp only;rw[if_pos rfl];exact DZ<|h n st n1 n2 B rfl n3 fun _ _=>rfl
 rw[if_neg y];have:n=1:=by omega
 subst this;refine DT<|JO<|G6 ⟨rfl,?_⟩;refine DT (B0 O hU nd hn (DQ _) (by omega) B (fun i j g1 g2 g3=>?_) fun m m1 m2 m3=>?_)
 ·have:i=lo/\j=lo+1:=by omega
  rw[this.1,this.2];exact n5
 dsimp only;rw[if_neg (by omega)];rw[reverseSlice'_eq];refine DT<|FQ ?_;have hsz:=B.size;have e1:∀k,at' (mirror (arrOf st) lo (lo+m)<|(lo+m-lo)/2) k=if lo<=k/\k<lo+m then at' (arrOf st) (lo+(lo+m)-1-k)else at' (arrOf st) k:=fun k=>se (by omega) k;have B2:SB κ a0 (setArr st<|mirror (arrOf st) lo (lo+m)<|(lo+m-lo)/2):=B.set<|mirror_perm _ _ _ _;refine DT (AZ O hU nd hn (by omega) m2 B2 (fun i j g1 g2 g3=>?_) fun k k1 k2 k3 k4=>?_)
 ·show L (at' (mirror (arrOf st) lo (lo+m)<|(lo+m- lo)/ 2) i) (at' (mirror (arrOf st) lo (lo+m)<|(lo+m- lo)/ 2) j)=true;rw[e1,e1,if_pos (by omega),if_pos (by omega)];exact m3 _ _ (by omega) (by omega) (by omega)
 ·dsimp only;refine DZ (h k _ (by omega) k2 B2 rfl k3 fun i hi=>?_);show at' (mirror (arrOf st) lo (lo+m)<|(lo+m-lo)/2) i=_;rw[e1,if_neg (by omega)]
end
def dq:Bool->E2->Array E2->Nat->Nat->Nat->StateT FI Sem (Option Nat):=sortPriv%PySem.Builtin.gallop
def yA(left:Bool)(key:E2)(arr:Array E2)(base i:Nat):StateT FI Sem (Option Bool):=do
    let x <-elem' arr (base+i)
    if left then lt' x key else return (<-lt' key x).map (!·)
theorem oV(left:Bool)(key:E2)(arr:Array E2)(base n hint:Nat):dq left key arr base n hint=(do
 let mut lastofs:=0
 let mut ofs:=1
 let mut lo:=0
 let mut hi:=0
 let some right <-yA left key arr base hint|return none
 if right then
  let maxofs:=n-hint
  for _ in [0:n]do
   if ofs≥maxofs then break
   let some more <-yA left key arr base (hint+ofs)|return none
   if !more then break
   lastofs:=ofs
   ofs:=2*ofs+1
  lo:=hint+lastofs+1
  hi:=hint+min ofs maxofs
 else
  let maxofs:=hint+1
  for _ in [0:n]do
   if ofs≥maxofs then break
   let some found <-yA left key arr base (hint-ofs)|return none
   if found then break
   lastofs:=ofs
   ofs:=2*ofs+1
  lo:=hint+1-min ofs maxofs
  hi:=hint-lastofs
 for _ in [0:n]do
  if lo≥hi then break
  let m:=lo+(hi-lo)/2
  let some more <-yA left key arr base m|return none
  if more then lo:=m+1 else hi:=m
 return some hi):=rfl
section
variable{M:K5}{A:EB}{E:DM->DN->Prop}{s:DN}{κ:IB}{U:E2->Prop}{L:E2->E2->Bool}{st:FI}
def B'(L:E2->E2->Bool)(left:Bool)(key:E2)(arr:Array E2)(base i:Nat):Bool:=if left then L (at' arr<|base+i) key else !L key (at' arr<|base+i)
theorem zI(O:LtOk M A E s κ U L){left:Bool}{key:E2}{arr:Array E2}{base i:Nat}{Q:Option Bool->FI->Prop}(hk:U key)(hu:U (at' arr<|base+i))(hi:base+i<arr.size)(kd:kindOf st=κ)(h:Q (some<|B' L left key arr base i) st):wpS M A E s (yA left key arr base i) Q st:=by
 unfold yA;refine DT<|bf hi ?_;unfold B' at h;cases left with
 |true=>exact O.lt _ _ _ _ hu hk kd h
 |false=>exact DT<|O.lt _ _ _ _ hk hu kd<|DZ h
theorem cM(O:LtOk M A E s κ U L){left:Bool}{key:E2}{arr:Array E2}{base n hint:Nat}{Q:Option Nat->FI->Prop}(hk:U key)(hu:∀i,i<n->U (at' arr<|base+i))(hz:base+n<=arr.size)(hh:hint<n)(kd:kindOf st=κ)
  (mono:∀i j,i<j->j<n->B' L left key arr base j=true->B' L left key arr base i=true)
  (h:∀k,k<=n->(∀i,i<n->(B' L left key arr base i=true↔i<k))->Q (some k) st):wpS M A E s (dq left key arr base n hint) Q st:=by
 rw[oV];have ask:∀i(R:Option Bool->FI->Prop),i<n->R (some<|B' L left key arr base i) st->wpS M A E s (yA left key arr base i) R st:=fun i R hi hR=>zI O hk (hu i hi) (by omega) kd hR;generalize hB:B' L left key arr base=B at*
 have fin:∀lo hi,lo<=hi->hi<=n->(∀i,i<lo->B i=true)->(∀i,hi<=i->i<n->B i=false)->∀k:Option (Option Nat)×Nat×Nat->StateT FI Sem (Option Nat),(∀l r,k (none,l,r)=pure (some r))->wpS M A E s (do
   let c <-forIn [0:n] ((none:Option (Option Nat)),lo,hi) fun _ c=>do
    if c.2.1≥c.2.2 then pure (Ei (none,c.2.1,c.2.2))else
     let some more <-yA left key arr base (c.2.1+(c.2.2-c.2.1)/2)|pure (Ei (some none,c.2.1,c.2.2))
     if more=true then pure (Et (none,c.2.1+(c.2.2-c.2.1)/2+1,c.2.2))else pure (Et (none,c.2.1,c.2.1+(c.2.2-c.2.1)/2))
   k c) Q st:=by
  intro lo hi hlo hhi h1 h2 k hk';refine DT (F9 (I:=fun x c st'=>st'=st/\∃l r,c=(none,l,r)/\l<=r/\r<=n/\r-l<=n-x/\(∀i,i<l->B i=true)/\∀i,r<=i->i<n->B i=false) ?step ?fin ⟨rfl,lo,hi,rfl,hlo,hhi,by omega,h1,h2⟩)
  case fin=>
   rintro c st' ⟨rfl,l,r,rfl,q1,q2,q3,q4,q5⟩;have:l=r:=by omega
   subst this;rw[hk'];refine DZ<|h l q2 fun i hi=>⟨fun z=>?_,q4 i⟩;by_cases y:i<l;·exact y
   ·rw[q5 i (by omega) hi]at z;cases z
  case step=>
   rintro x c st' _ hx ⟨rfl,l,r,rfl,q1,q2,q3,q4,q5⟩;dsimp only;by_cases z:l≥r
   ·rw[if_pos z];have:l=r:=by omega
    subst this;refine DZ ?_;show wpS M A E s (k (none,l,l)) Q st';rw[hk'];refine DZ<|h l q2 fun i hi=>⟨fun z=>?_,q4 i⟩;by_cases y:i<l;·exact y
    ·rw[q5 i (by omega) hi]at z;cases z
   ·rw[if_neg z];refine DT (ask _ _ (by omega) ?_);cases hm:B (l+(r-l)/2)with
    |true=>
     dsimp only;rw[if_pos rfl];refine DZ ⟨rfl,_,_,rfl,by omega,q2,by omega,fun i hi=>?_,q5⟩;by_cases y:i=l+(r-l)/2;·rw[y];exact hm
     ·exact mono i _ (by omega) (by omega) hm
    |false=>
     dsimp only;rw[if_neg (by decide)];refine DZ ⟨rfl,_,_,rfl,by omega,by omega,by omega,q4,fun i h1 h2=>?_⟩;cases e:B i with
     |false=>rfl
     |true=>
      by_cases y:i=l+(r-l)/2;·rw[y]at e;rw[e]at hm;exact hm
      ·rw[mono _ i (by omega) h2 e]at hm;exact hm
 refine DT<|ask hint _ hh ?_;cases hr:B hint with
 |true=>
  dsimp only;rw[if_pos rfl];refine DT<|GX (F9 (I:=fun x c st'=>st'=st/\∃la o,c=(none,la,o)/\la<o/\x<o/\hint+la<n/\B (hint+la)=true) (Q:=fun c st'=>st'=st/\∃la o,c=(none,la,o)/\la<o/\hint+la<n/\B (hint+la)=true/\(o≥n-hint\/(hint+o<n/\B (hint+o)=false))) ?step ?fin ?init) ?post
  case init=>exact⟨rfl,0,1,rfl,by omega,by omega,by omega,by simpa using hr⟩
  case fin=>
   rintro c st' ⟨rfl,la,o,rfl,q1,q2,q3,q4⟩;exact⟨rfl,la,o,rfl,q1,q3,q4,.inl (by omega)⟩
  case step=>
   rintro x c st' _ hx ⟨rfl,la,o,rfl,q1,q2,q3,q4⟩;dsimp only;by_cases z:o≥n-hint
   ·rw[if_pos z];exact DZ ⟨rfl,la,o,rfl,q1,q3,q4,.inl z⟩
   ·rw[if_neg z];refine DT (ask _ _ (by omega) ?_);cases hm:B (hint+o)with
    |true=>exact DZ ⟨rfl,o,2*o+1,rfl,by omega,by omega,by omega,hm⟩
    |false=>exact DZ ⟨rfl,la,o,rfl,q1,q3,q4,.inr ⟨by omega,hm⟩⟩
  case post=>
   rintro c st' ⟨rfl,la,o,rfl,q1,q3,q4,q5⟩;dsimp only;have k1:∀i,i<hint+la+1->B i=true:=fun i hi=>by
    by_cases y:i=hint+la;·rw[y];exact q4
    ·exact mono i _ (by omega) q3 q4
   refine fin (hint+la+1) (hint+min o (n-hint)) (by omega) (by omega) k1 (fun i h1 h2=>?_) _<|fun _ _=>rfl;rcases q5 with q5|⟨q5,q6⟩
   ·omega
   ·cases e:B i with
    |false=>rfl
    |true=>
     by_cases y:i=hint+o;·rw[y]at e;rw[e]at q6;exact q6
     ·rw[mono _ i (by omega) h2 e]at q6;exact q6
 |false=>
  dsimp only;rw[if_neg (by decide)];refine DT<|GX (F9 (I:=fun x c st'=>st'=st/\∃la o,c=(none,la,o)/\la<o/\x<o/\la<=hint/\B (hint-la)=false) (Q:=fun c st'=>st'=st/\∃la o,c=(none,la,o)/\la<o/\la<=hint/\B (hint-la)=false/\(o≥hint+1\/(o<=hint/\B (hint-o)=true))) ?step ?fin ?init) ?post
  case init=>exact⟨rfl,0,1,rfl,by omega,by omega,by omega,by simpa using hr⟩
  case fin=>
   rintro c st' ⟨rfl,la,o,rfl,q1,q2,q3,q4⟩;exact⟨rfl,la,o,rfl,q1,q3,q4,.inl (by omega)⟩
  case step=>
   rintro x c st' _ hx ⟨rfl,la,o,rfl,q1,q2,q3,q4⟩;dsimp only;by_cases z:o≥hint+1
   ·rw[if_pos z];exact DZ ⟨rfl,la,o,rfl,q1,q3,q4,.inl z⟩
   ·rw[if_neg z];refine DT (ask _ _ (by omega) ?_);cases hm:B (hint-o)with
    |true=>exact DZ ⟨rfl,la,o,rfl,q1,q3,q4,.inr ⟨by omega,hm⟩⟩
    |false=>exact DZ ⟨rfl,o,2*o+1,rfl,by omega,by omega,by omega,hm⟩
  case post=>
   rintro c st' ⟨rfl,la,o,rfl,q1,q3,q4,q5⟩;dsimp only;refine fin (hint+1-min o (hint+1)) (hint-la) (by omega) (by omega) (fun i hi=>?_) (fun i h1 h2=>?_) _<|fun _ _=>rfl
   ·rcases q5 with q5 | ⟨q5,q6⟩
    ·omega
    ·by_cases y:i=hint- o;·rw[y];exact q6
     ·exact mono i _ (by omega) (by omega) q6
   ·cases e:B i with
    |false=>rfl
    |true=>
     by_cases y:i=hint-la;·rw[y]at e;rw[e]at q4;exact q4
     ·rw[mono _ i (by omega) h2 e]at q4;exact q4
end
def ext'(xs:Array E2)(a b:Nat):List E2:=(xs.extract a b).toList
theorem di(xs:Array E2)(a b:Nat):ext' xs a b=(xs.toList.drop a).take (b-a):=by unfold ext';rw[Array.toList_extract,List.extract_eq_drop_take]
theorem bO{xs:Array E2}{a b:Nat}(hb:b<=xs.size){x:E2}:x∈ext' xs a b↔∃i,a<=i/\i<b/\x=at' xs i:=by
 rw[di,Gw];constructor
 ·rintro ⟨i,hi⟩;have hlt:i<b-a:=by
   have:=(DR.mp hi).1;simp at this;omega
  rw[EC hlt,EZ,DX,cU (by omega)]at hi;cases hi;exact⟨a+i,by omega,by omega,rfl⟩
 ·rintro ⟨i,h1,h2,rfl⟩;refine⟨i-a,?_⟩;rw[EC (by omega),EZ,DX,show a+(i-a)=i by omega,cU (by omega)]
theorem gf{L:E2->E2->Bool}{xs:Array E2}{a b lo hi:Nat}(h:Sr L xs lo hi)(ha:lo<=a)(hb:b<=hi)(hs:hi<=xs.size):(ext' xs a b).Pairwise (fun x y=>L x y=true):=by
 rw[di,G4];intro i j hi' hj hij;have hj':j<b-a:=by simp at hj;omega
 have e:∀k,k<b-a->(h':k<((xs.toList.drop a).take (b-a)).length)->((xs.toList.drop a).take (b-a))[k]=at' xs (a+k):=fun k hk h'=>by
  have:=DO h';rw[EC hk,EZ,DX,cU (by omega)]at this;exact(Es this).symm
 rw[e i (by omega),e j hj'];exact h _ _ (by omega) (by omega) (by omega)
theorem ft{xs:Array E2}{a b:Nat}(hb:b<xs.size)(hab:a<=b):ext' xs a (b+1)=ext' xs a b++[at' xs b]:=by
 rw[di,di,show b+1-a=(b-a)+1 by omega,List.take_succ,EZ,DX,show a+(b-a)=b by omega,cU hb];rfl
theorem cV{xs:Array E2}{a b c:Nat}(h1:a<=b)(h2:b<=c):ext' xs a c=ext' xs a b++ext' xs b c:=by
 rw[di,di,di,show c-a=(b-a)+(c-b) by omega,List.take_add,Ma,show a+(b-a)=b by omega]
theorem ik(xs:Array E2):ext' xs 0 xs.size=xs.toList:=by rw[di,J6,MZ,<-Eu,List.take_length]
theorem dt(xs:Array E2)(a:Nat):ext' xs a a=[]:=by rw[di];simp
structure JL(L:E2->E2->Bool)(a b out:Array E2)(ia ib:Nat):Prop where
 pm:out.toList.Perm (ext' a 0 ia++ext' b 0 ib)
 so:out.toList.Pairwise (fun x y=>L x y=true)
 lo:∀x∈out.toList,(∀i,ia<=i->i<a.size->L x (at' a i)=true)/\∀j,ib<=j->j<b.size->L x (at' b j)=true
section
variable{L:E2->E2->Bool}{a b out:Array E2}{ia ib:Nat}
theorem JL.takeA(J:JL L a b out ia ib)(sa:Sr L a 0 a.size){k:Nat}(hk:ia+k<=a.size)(h:∀i,ia<=i->i<ia+k->∀j,ib<=j->j<b.size->L (at' a i) (at' b j)=true){out':Array E2}(ho:out'.toList=out.toList++ext' a ia (ia+k)):JL L a b out' (ia+k) ib:=by
 refine⟨?_,?_,fun x hx=>?_⟩
 ·rw[ho,cV (xs:=a) (Eh ia)<|Fe ia k,Eb];refine(Fo _ J.pm).trans ?_;rw[Eb];exact Fu _ Gy
 ·rw[ho,Fy];refine⟨J.so,gf sa (Eh _) (by omega)<|DQ _,fun x hx y hy=>?_⟩;obtain⟨i,h1,h2,rfl⟩:=(bO (by omega)).mp hy;exact(J.lo x hx).1 i h1 (by omega)
 ·rw[ho]at hx;rcases EI.mp hx with hx|hx
  ·exact⟨fun i h1 h2=>(J.lo x hx).1 i (by omega) h2,(J.lo x hx).2⟩
  ·obtain⟨i,h1,h2,rfl⟩:=(bO (by omega)).mp hx;exact⟨fun i' h3 h4=>sa i i' (by omega) (by omega) h4,h i h1 h2⟩
theorem JL.takeB(J:JL L a b out ia ib)(sb:Sr L b 0 b.size){k:Nat}(hk:ib+k<=b.size)(h:∀j,ib<=j->j<ib+k->∀i,ia<=i->i<a.size->L (at' b j) (at' a i)=true){out':Array E2}(ho:out'.toList=out.toList++ext' b ib (ib+k)):JL L a b out' ia (ib+k):=by
 refine⟨?_,?_,fun x hx=>?_⟩
 ·rw[ho,cV (xs:=b) (Eh ib)<|Fe ib k,<-Eb];exact Fo _ J.pm
 ·rw[ho,Fy];refine⟨J.so,gf sb (Eh _) (by omega)<|DQ _,fun x hx y hy=>?_⟩;obtain⟨i,h1,h2,rfl⟩:=(bO (by omega)).mp hy;exact(J.lo x hx).2 i h1 (by omega)
 ·rw[ho]at hx;rcases EI.mp hx with hx|hx
  ·exact⟨(J.lo x hx).1,fun i h1 h2=>(J.lo x hx).2 i (by omega) h2⟩
  ·obtain⟨i,h1,h2,rfl⟩:=(bO (by omega)).mp hx;exact⟨h i h1 h2,fun i' h3 h4=>sb i i' (by omega) (by omega) h4⟩
theorem JL.fin(J:JL L a b out ia ib)(sa:Sr L a 0 a.size)(sb:Sr L b 0 b.size)(ha:ia<=a.size)(hb:ib<=b.size)(h:∀j,ib<=j->j<b.size->∀i,ia<=i->i<a.size->L (at' b j) (at' a i)=true){r:List E2}(hr:r=out.toList++ext' b ib b.size++ext' a ia a.size):
  r.Perm (a.toList++b.toList)/\r.Pairwise (fun x y=>L x y=true):=by
 subst hr;constructor
 ·have e1:a.toList=ext' a 0 ia++ext' a ia a.size:=by rw[<-cV (Eh _) ha,ik]
  have e2:b.toList=ext' b 0 ib++ext' b ib b.size:=by rw[<-cV (Eh _) hb,ik]
  rw[e1,e2];refine(Fo _<|Fo _ J.pm).trans ?_;generalize ext' a 0 ia=p;generalize ext' a ia a.size=q;generalize ext' b 0 ib=u;generalize ext' b ib b.size=v;rw[Eb p,Eb p,Eb p];refine Fu _ ?_;exact Gy
 ·rw[Eb,Fy,Fy];refine⟨J.so,⟨gf sb (Eh _) (DQ _)<|DQ _,gf sa (Eh _) (DQ _)<|DQ _,fun x hx y hy=>?_⟩,fun x hx y hy=>?_⟩
  ·obtain⟨j,h1,h2,rfl⟩:=(bO<|DQ _).mp hx;obtain⟨i,h3,h4,rfl⟩:=(bO<|DQ _).mp hy;exact h j h1 h2 i h3 h4
  ·rcases EI.mp hy with hy | hy
   ·obtain⟨j,h1,h2,rfl⟩:=(bO<|DQ _).mp hy;exact(J.lo x hx).2 j h1 h2
   ·obtain⟨j,h1,h2,rfl⟩:=(bO<|DQ _).mp hy;exact(J.lo x hx).1 j h1 h2
end
def ko:Array E2->Array E2->StateT FI Sem (Array E2):=sortPriv%PySem.Builtin.mergeLo
def ip(g:Nat):StateT FI Sem Unit:=modify fun st=>HB (kindOf st) (arrOf st) (pendingOf st) g<|failedOf st
theorem nI(a b:Array E2):ko a b=(do
 rule "list.sort.merge-lo"
 let total:=a.size+b.size
 let done (out:Array E2) (ia ib:Nat):=out++a.extract ia a.size++b.extract ib b.size
 let lastOfA (out:Array E2) (ia ib:Nat):=out++b.extract ib b.size++a.extract ia a.size
 let mut out:Array E2:= #[<-elem' b 0]
 let mut ia:=0
 let mut ib:=1
 if ib==b.size then return done out ia ib
 if ia+1==a.size then return lastOfA out ia ib
 let mut minGallop:=gallopOf (<-get)
 for _ in [0:total]do
  let mut acount:=0
  let mut bcount:=0
  for _ in [0:total]do
   let some bWins <-lt' (<-elem' b ib) (<-elem' a ia)|return done out ia ib
   if bWins then
    out:=out.push<|<-elem' b ib;ib:=ib+1;bcount:=bcount+1;acount:=0
    if ib==b.size then return done out ia ib
    if bcount≥minGallop then break
   else
    out:=out.push<|<-elem' a ia;ia:=ia+1;acount:=acount+1;bcount:=0
    if ia+1==a.size then return lastOfA out ia ib
    if acount≥minGallop then break
  rule "list.sort.gallop"
  minGallop:=minGallop+1
  for _ in [0:total]do
   if minGallop>1 then minGallop:=minGallop-1
   ip minGallop
   let some k <-dq false (<-elem' b ib) a ia (a.size-ia) 0|return done out ia ib
   acount:=k
   if k>0 then
    out:=out++a.extract ia (ia+k);ia:=ia+k
    if ia+1==a.size then return lastOfA out ia ib
    if ia==a.size then return done out ia ib
   out:=out.push<|<-elem' b ib;ib:=ib+1
   if ib==b.size then return done out ia ib
   let some k <-dq true (<-elem' a ia) b ib (b.size-ib) 0|return done out ia ib
   bcount:=k
   if k>0 then
    out:=out++b.extract ib (ib+k);ib:=ib+k
    if ib==b.size then return done out ia ib
   out:=out.push<|<-elem' a ia;ia:=ia+1
   if ia+1==a.size then return lastOfA out ia ib
   if acount<7&&bcount<7 then break
  minGallop:=minGallop+1
  ip minGallop
 unsupported "internal:list.sort.merge-bound"):=rfl
section
variable{M:K5}{A:EB}{E:DM->DN->Prop}{s:DN}{κ:IB}{U:E2->Prop}{L:E2->E2->Bool}{st:FI}
def cg(st st':FI):Prop:=kindOf st'=kindOf st/\arrOf st'=arrOf st/\pendingOf st'=pendingOf st/\failedOf st'=failedOf st
theorem oW(O:LtOk M A E s κ U L){a b:Array E2}{Q:Array E2->FI->Prop}(kd:kindOf st=κ)(ua:∀i,i<a.size->U (at' a i))(ub:∀i,i<b.size->U (at' b i))(na:0<a.size)(nb:0<b.size)(sa:Sr L a 0 a.size)(sb:Sr L b 0 b.size)
  (ne:∀i j,i<a.size->j<b.size->at' a i≠at' b j) (h0:L (at' b 0) (at' a 0)=true) (h1:∀j,j<b.size->L (at' b j) (at' a<|a.size-1)=true)
  (h:∀r st',cg st st'->r.toList.Perm (a.toList++b.toList)->r.toList.Pairwise (fun x y=>L x y=true)->Q r st'):wpS M A E s (ko a b) Q st:=by
 rw[nI];refine DT<|JO<|G6 ⟨rfl,?_⟩;dsimp only;refine DT<|bf nb ?_;have J0:JL L a b #[at' b 0] 0 1:=by
  refine⟨?_,HW _ _,fun x hx=>?_⟩;·rw[dt,ft (a:=0) (b:=0) nb<|DQ _,dt];exact .refl _
  ·have:x=at' b 0:=by simpa using hx
   subst this;refine⟨fun i h2 h3=>?_,fun j h2 h3=>sb 0 j (DQ _) (by omega) h3⟩;by_cases z:i=0;·rw[z];exact h0
   ·exact O.tr _ _ _ (ub 0 nb) (ua 0 na) (ua i h3) h0 (sa 0 i (DQ _) (by omega) h3)
 have endB:∀(out:Array E2)ia ib st',cg st st'->JL L a b out ia ib->ia<=a.size->ib=b.size->Q (out++a.extract ia a.size++b.extract ib b.size) st':=fun out ia ib st' al J h2 h3=>by
  subst h3;have:=J.fin sa sb h2 (DQ _) (fun j h3 h4=>by omega) (r:=(out++a.extract ia a.size++b.extract b.size b.size).toList) (by
   rw[EM,EM];show out.toList++ext' a ia a.size++ext' b b.size b.size=_;rw[dt,Gi,Gi])
  exact h _ st' al this.1 this.2
 have endA:∀(out:Array E2)ia ib st',cg st st'->JL L a b out ia ib->ib<=b.size->ia+1=a.size->Q (out++b.extract ib b.size++a.extract ia a.size) st':=fun out ia ib st' al J h2 h3=>by
  have:=J.fin sa sb (by omega) h2 (fun j h4 h5 i h6 h7=>by
   have:i=a.size-1:=by omega
   rw[this];exact h1 j h5) (r:=(out++b.extract ib b.size++a.extract ia a.size).toList) (by rw[EM,EM];rfl)
  exact h _ st' al this.1 this.2
 have al0:cg st st:=⟨rfl,rfl,rfl,rfl⟩
 by_cases z1:1=b.size
 ·rw[if_pos (by simpa using z1)];exact DZ<|endB _ 0 1 st al0 J0 (Eh _) z1
 rw[if_neg (by simpa using z1)];by_cases z2:0+1=a.size
 ·rw[if_pos (by simpa using z2)];exact DZ (endA _ 0 1 st al0 J0 (by omega) z2)
 rw[if_neg (by simpa using z2)];refine DT<|Ig ?_;refine DT<|GX (F9 (I:=fun x c st'=>cg st st'/\∃out ia ib g,c=(none,out,ia,ib,g)/\JL L a b out ia ib/\ia+1<a.size/\ib<b.size/\x+1<=ia+ib) (Q:=fun c st'=>cg st st'/\∃r rest,c=(some r,rest)/\Q r st') ?step ?fin ?init) ?post
 case init=>exact⟨al0,_,_,_,_,rfl,J0,by omega,by omega,by omega⟩
 case fin=>
  rintro c st' ⟨al,out,ia,ib,g,rfl,J,q1,q2,q3⟩;omega
 case post=>
  rintro c st' ⟨al,r,rest,rfl,hq⟩;exact DZ hq
 case step=>
  rintro x c st1 _ hx ⟨al,out,ia,ib,g,rfl,J,q1,q2,q3⟩;dsimp only;refine DT (GX (F9 (I:=fun y c st'=>st'=st1/\∃out ia ib ac bc,c=(none,out,ia,ib,ac,bc)/\JL L a b out ia ib/\ia+1<a.size/\ib<b.size/\x+1+y<=ia+ib)
   (Q:=fun c st'=>st'=st1/\((∃r rest,c=(some r,rest)/\Q r st')\/∃out ia ib ac bc,c=(none,out,ia,ib,ac,bc)/\JL L a b out ia ib/\ia+1<a.size/\ib<b.size/\x+2<=ia+ib)) ?step1 ?fin1 ?init1) ?post1)
  case init1=>exact⟨rfl,_,_,_,_,_,rfl,J,q1,q2,by omega⟩
  case fin1=>
   rintro c st' ⟨rfl,out,ia,ib,ac,bc,rfl,J,q1,q2,q3⟩;exact⟨rfl,.inr ⟨_,_,_,_,_,rfl,J,q1,q2,by omega⟩⟩
  case step1=>
   rintro y c st' _ hy ⟨rfl,out,ia,ib,ac,bc,rfl,J,q1,q2,q3⟩;dsimp only;refine DT (bf q2 (DT (bf (by omega) (DT (O.lt _ _ _ _ (ub _ q2) (ua _ (by omega)) (al.1.trans kd) ?_)))));cases hw:L (at' b ib) (at' a ia)with
   |true=>
    dsimp only;rw[if_pos rfl];refine DT<|bf q2 ?_;have J':JL L a b (out.push<|at' b ib) ia (ib+1):=J.takeB sb (k:=1) (by omega) (fun j h2 h3 i h4 h5=>by
     have:j=ib:=by omega
     subst this;by_cases z:i=ia;·rw[z];exact hw
     ·exact O.tr _ _ _ (ub _ q2) (ua _ (by omega)) (ua _ h5) hw (sa ia i (by omega) (by omega) h5)) (by rw[Gg,ft q2 (DQ _),dt];rfl)
    by_cases z:ib+1=b.size
    ·rw[if_pos (by simpa using z)];exact DZ ⟨rfl,.inl ⟨_,_,rfl,endB _ ia (ib+1) _ al J' (by omega) z⟩⟩
    ·rw[if_neg (by simpa using z)];by_cases w:bc+1≥g;·rw[if_pos w];exact DZ ⟨rfl,.inr ⟨_,_,_,_,_,rfl,J',q1,by omega,by omega⟩⟩
     ·rw[if_neg w];exact DZ ⟨rfl,_,_,_,_,_,rfl,J',q1,by omega,by omega⟩
   |false=>
    dsimp only;rw[if_neg (by decide)];refine DT (bf (by omega) ?_);have hw':=O.tot _ _ (ub _ q2) (ua _ (by omega)) (fun e=>ne ia ib (by omega) q2 e.symm) hw;have J':JL L a b (out.push<|at' a ia) (ia+1) ib:=J.takeA sa (k:=1) (by omega) (fun i h2 h3 j h4 h5=>by
     have:i=ia:=by omega
     subst this;by_cases z:j=ib;·rw[z];exact hw'
     ·exact O.tr _ _ _ (ua _ (by omega)) (ub _ q2) (ub _ h5) hw' (sb ib j (by omega) (by omega) h5)) (by rw[Gg,ft (by omega) (DQ _),dt];rfl)
    by_cases z:ia+1+1=a.size
    ·rw[if_pos (by simpa using z)];exact DZ ⟨rfl,.inl ⟨_,_,rfl,endA _ (ia+1) ib _ al J' (by omega) z⟩⟩
    ·rw[if_neg (by simpa using z)];by_cases w:ac+1≥g;·rw[if_pos w];exact DZ ⟨rfl,.inr ⟨_,_,_,_,_,rfl,J',by omega,by omega,by omega⟩⟩
     ·rw[if_neg w];exact DZ ⟨rfl,_,_,_,_,_,rfl,J',by omega,by omega,by omega⟩
  case post1=>
   rintro c st' ⟨rfl,⟨r,rest,rfl,hq⟩|⟨out,ia,ib,ac,bc,rfl,J,q1,q2,q3⟩⟩;·exact DZ ⟨al,_,_,rfl,hq⟩
   dsimp only;refine DT<|JO<|G6 ⟨rfl,?_⟩;refine DT (GX (F9 (I:=fun y c st'=>cg st st'/\∃out ia ib g ac bc,c=(none,out,ia,ib,g,ac,bc)/\JL L a b out ia ib/\ia+1<a.size/\ib<b.size/\x+2<=ia+ib)
    (Q:=fun c st'=>cg st st'/\((∃r rest,c=(some r,rest)/\Q r st')\/∃out ia ib g ac bc,c=(none,out,ia,ib,g,ac,bc)/\JL L a b out ia ib/\ia+1<a.size/\ib<b.size/\x+2<=ia+ib)) ?step2 ?fin2 ?init2) ?post2)
   case init2=>exact⟨al,_,_,_,_,_,_,rfl,J,q1,q2,q3⟩
   case fin2=>exact fun c st'⟨al,out,ia,ib,g,ac,bc,e,J,q1,q2,q3⟩=>⟨al,.inr ⟨out,ia,ib,g,ac,bc,e,J,q1,q2,q3⟩⟩
   case post2=>
    rintro c st' ⟨al,⟨r,rest,rfl,hq⟩|⟨out,ia,ib,g,ac,bc,rfl,J,q1,q2,q3⟩⟩;·exact DZ ⟨al,_,_,rfl,hq⟩
    ·dsimp only;refine DT (FQ (DZ ⟨al,_,_,_,_,rfl,J,q1,q2,by omega⟩))
   case step2=>
    rintro y c st' _ hy ⟨al,out,ia,ib,g,ac,bc,rfl,J,q1,q2,q3⟩;dsimp only
    let C:=Option (Array E2)×Array E2×Nat×Nat×Nat×Nat×Nat
    let R:ForInStep C->FI->Prop:=fun r st'=>match r with
     | .done c=>cg st st'/\((∃r rest,c=(some r,rest)/\Q r st')\/∃out ia ib g ac bc,c=(none,out,ia,ib,g,ac,bc)/\JL L a b out ia ib/\ia+1<a.size/\ib<b.size/\x+2<=ia+ib)
     | .yield c=>cg st st'/\∃out ia ib g ac bc,c=(none,out,ia,ib,g,ac,bc)/\JL L a b out ia ib/\ia+1<a.size/\ib<b.size/\x+2<=ia+ib
    have pC:∀(out:Array E2)ia ib g k k1 st',cg st st'->JL L a b out ia ib->ia+1<a.size->ib<b.size->x+2<=ia+ib->L (at' a ia) (at' b ib)=true->wpS M A E s (do
      let x <-elem' a ia
      if(ia+1+1==a.size)=true then pure (Ei (some<|out.push x++b.extract ib b.size++a.extract (ia+1) a.size,out.push x,ia+1,ib,g,k,k1))
      else if(decide (k<7)&&decide (k1<7))=true then pure (Ei (none,out.push x,ia+1,ib,g,k,k1))
      else pure (Et (none,out.push x,ia+1,ib,g,k,k1))) R st':=by
     intro out ia ib g k k1 st' al J q1 q2 q3 hab;refine DT (bf (by omega) ?_);have J':JL L a b (out.push<|at' a ia) (ia+1) ib:=J.takeA sa (k:=1) (by omega) (fun i h2 h3 j h4 h5=>by
      have:i=ia:=by omega
      subst this;by_cases z:j=ib;·rw[z];exact hab
      ·exact O.tr _ _ _ (ua _ (by omega)) (ub _ q2) (ub _ h5) hab (sb ib j (by omega) (by omega) h5)) (by rw[Gg,ft (by omega) (DQ _),dt];rfl)
     by_cases z:ia+1+1=a.size
     ·rw[if_pos (by simpa using z)];exact DZ ⟨al,.inl ⟨_,_,rfl,endA _ (ia+1) ib _ al J' (by omega) z⟩⟩
     ·rw[if_neg (by simpa using z)];by_cases w:(decide (k<7)&&decide (k1<7))=true;·rw[if_pos w];exact DZ ⟨al,.inr ⟨_,_,_,_,_,_,rfl,J',by omega,by omega,by omega⟩⟩
      ·rw[if_neg w];exact DZ ⟨al,_,_,_,_,_,_,rfl,J',by omega,by omega,by omega⟩
    have pB:∀(out:Array E2)ia ib g k bc st',cg st st'->JL L a b out ia ib->ia+1<a.size->ib<b.size->x+2<=ia+ib->L (at' b ib) (at' a ia)=true->wpS M A E s (do
      let x <-elem' b ib
      if(ib+1==b.size)=true then pure (Ei (some<|out.push x++a.extract ia a.size++b.extract (ib+1) b.size,out.push x,ia,ib+1,g,k,bc))
      else
       let y <-elem' a ia
       let some k1 <-dq true y b (ib+1) (b.size-(ib+1)) 0|pure (Ei (some<|out.push x++a.extract ia a.size++b.extract (ib+1) b.size,out.push x,ia,ib+1,g,k,bc))
       if k1>0 then
        if(ib+1+k1==b.size)=true then pure (Ei (some<|out.push x++b.extract (ib+1) (ib+1+k1)++a.extract ia a.size++b.extract (ib+1+k1) b.size,out.push x++b.extract (ib+1) (ib+1+k1),ia,ib+1+k1,g,k,k1))
        else
         let z <-elem' a ia
         if(ia+1+1==a.size)=true then pure (Ei (some<|(out.push x++b.extract (ib+1) (ib+1+k1)).push z++b.extract (ib+1+k1) b.size++a.extract (ia+1) a.size,(out.push x++b.extract (ib+1) (ib+1+k1)).push z,ia+1,ib+1+k1,g,k,k1))
         else if(decide (k<7)&&decide (k1<7))=true then pure (Ei (none,(out.push x++b.extract (ib+1) (ib+1+k1)).push z,ia+1,ib+1+k1,g,k,k1))
         else pure (Et (none,(out.push x++b.extract (ib+1) (ib+1+k1)).push z,ia+1,ib+1+k1,g,k,k1))
       else
        let z <-elem' a ia
        if(ia+1+1==a.size)=true then pure (Ei (some<|(out.push x).push z++b.extract (ib+1) b.size++a.extract (ia+1) a.size,(out.push x).push z,ia+1,ib+1,g,k,k1))
        else if(decide (k<7)&&decide (k1<7))=true then pure (Ei (none,(out.push x).push z,ia+1,ib+1,g,k,k1))
        else pure (Et (none,(out.push x).push z,ia+1,ib+1,g,k,k1))) R st':=by
     intro out ia ib g k bc st' al J q1 q2 q3 hba;refine DT<|bf q2 ?_;have J':JL L a b (out.push<|at' b ib) ia (ib+1):=J.takeB sb (k:=1) (by omega) (fun j h2 h3 i h4 h5=>by
      have:j=ib:=by omega
      subst this;by_cases z:i=ia;·rw[z];exact hba
      ·exact O.tr _ _ _ (ub _ q2) (ua _ (by omega)) (ua _ h5) hba (sa ia i (by omega) (by omega) h5)) (by rw[Gg,ft q2 (DQ _),dt];rfl)
     by_cases z:ib+1=b.size
     ·rw[if_pos (by simpa using z)];exact DZ ⟨al,.inl ⟨_,_,rfl,endB _ ia (ib+1) _ al J' (by omega) z⟩⟩
     rw[if_neg (by simpa using z)];refine DT (bf (by omega) (DT (cM O (ua _ (by omega)) (fun i hi=>ub _ (by omega)) (by omega) (by omega) (al.1.trans kd) (fun i j hij hj hB=>?_) fun k1 hk1 hB=>?_)))
     ·show L (at' b<|ib+1+i) (at' a ia)=true;exact O.tr _ _ _ (ub _ (by omega)) (ub _ (by omega)) (ua _ (by omega)) (sb (ib+1+i) (ib+1+j) (by omega) (by omega) (by omega)) hB
     have hB':∀i,i<b.size-(ib+1)->(L (at' b<|ib+1+i) (at' a ia)=true↔i<k1):=hB;dsimp only;have J2:JL L a b (out.push (at' b ib)++b.extract (ib+1) (ib+1+k1)) ia (ib+1+k1):=J'.takeB sb (by omega) (fun j h2 h3 i h4 h5=>by
      have e:=(hB' (j-(ib+1)) (by omega)).mpr (by omega);rw[show ib+1+(j-(ib+1))=j by omega]at e;by_cases w:i=ia;·rw[w];exact e
      ·exact O.tr _ _ _ (ub _ (by omega)) (ua _ (by omega)) (ua _ h5) e (sa ia i (by omega) (by omega) h5)) (by rw[EM];rfl)
     have ab:ib+1+k1<b.size->L (at' a ia) (at' b<|ib+1+k1)=true:=fun hlt=>by
      refine O.tot _ _ (ub _ hlt) (ua _ (by omega)) (fun e=>ne ia _ (by omega) hlt e.symm) ?_;cases e:L (at' b<|ib+1+k1) (at' a ia)with
      |false=>rfl
      |true=>exact absurd ((hB' k1 (by omega)).mp e) (by omega)
     by_cases w:k1>0
     ·rw[if_pos w];by_cases v:ib+1+k1=b.size
      ·rw[if_pos (by simpa using v)];exact DZ ⟨al,.inl ⟨_,_,rfl,endB _ ia (ib+1+k1) _ al J2 (by omega) v⟩⟩
      ·rw[if_neg (by simpa using v)];exact pC _ _ _ _ _ _ _ al J2 q1 (by omega) (by omega) (ab (by omega))
     ·rw[if_neg w];have:k1=0:=by omega
      subst this;exact pC _ _ _ _ _ _ _ al J' q1 (by omega) (by omega) (ab (by omega))
    by_cases w:g>1
    ·rw[if_pos w];refine DT (FQ (DT (bf q2 (DT (cM O (ub _ q2) (fun i hi=>ua _ (by omega)) (by omega) (by omega) (al.1.trans kd) (fun i j hij hj hB=>?_) fun k hk hB=>?_)))))
     ·have hB':(!L (at' b ib) (at' a<|ia+j))=true:=hB;show(!L (at' b ib) (at' a<|ia+i))=true;cases e:L (at' b ib) (at' a<|ia+i)with
      |false=>rfl
      |true=>
       rw[O.tr _ _ _ (ub _ q2) (ua _ (by omega)) (ua _ (by omega)) e (sa (ia+i) (ia+j) (by omega) (by omega) (by omega))]at hB';exact hB'
     have hB':∀i,i<a.size-ia->((!L (at' b ib) (at' a<|ia+i))=true↔i<k):=hB;have hk1:ia+k+1<=a.size:=by
      by_cases v:a.size-1-ia<k
      ·have e:=(hB' (a.size- 1- ia) (by omega)).mpr v;rw[show ia+(a.size-1-ia)=a.size-1 by omega,h1 ib q2]at e;cases e
      ·omega
     dsimp only;have J1:JL L a b (out++a.extract ia (ia+k)) (ia+k) ib:=J.takeA sa (by omega) (fun i h2 h3 j h4 h5=>by
      have e:=(hB' (i-ia) (by omega)).mpr (by omega);rw[show ia+(i-ia)=i by omega]at e;have e2:=O.tot _ _ (ub _ q2) (ua _ (by omega)) (fun e=>ne i ib (by omega) q2 e.symm) (by simpa using e);by_cases v:j=ib;·rw[v];exact e2
      ·exact O.tr _ _ _ (ua _ (by omega)) (ub _ q2) (ub _ h5) e2 (sb ib j (by omega) (by omega) h5)) (by rw[EM];rfl)
     have hba:L (at' b ib) (at' a<|ia+k)=true:=by
      cases e:L (at' b ib) (at' a<|ia+k)with
      |true=>rfl
      |false=>exact absurd ((hB' k (by omega)).mp (by rw[e];rfl)) (by omega)
     by_cases v:k>0
     ·rw[if_pos v];by_cases u:ia+k+1=a.size
      ·rw[if_pos (by simpa using u)];exact DZ ⟨al,.inl ⟨_,_,rfl,endA _ (ia+k) ib _ al J1 (by omega) u⟩⟩
      ·rw[if_neg (by simpa using u),if_neg (by simp;omega)];exact pB _ _ _ _ _ _ _ al J1 (by omega) q2 (by omega) hba
     ·rw[if_neg v];have:k=0:=by omega
      subst this;exact pB _ _ _ _ _ _ _ al J q1 q2 (by omega) hba
    ·rw[if_neg w];refine DT (FQ (DT (bf q2 (DT (cM O (ub _ q2) (fun i hi=>ua _ (by omega)) (by omega) (by omega) (al.1.trans kd) (fun i j hij hj hB=>?_) fun k hk hB=>?_)))))
     ·have hB':(!L (at' b ib) (at' a<|ia+j))=true:=hB;show(!L (at' b ib) (at' a<|ia+i))=true;cases e:L (at' b ib) (at' a<|ia+i)with
      |false=>rfl
      |true=>
       rw[O.tr _ _ _ (ub _ q2) (ua _ (by omega)) (ua _ (by omega)) e (sa (ia+i) (ia+j) (by omega) (by omega) (by omega))]at hB';exact hB'
     have hB':∀i,i<a.size-ia->((!L (at' b ib) (at' a<|ia+i))=true↔i<k):=hB;have hk1:ia+k+1<=a.size:=by
      by_cases v:a.size-1-ia<k
      ·have e:=(hB' (a.size- 1- ia) (by omega)).mpr v;rw[show ia+(a.size-1-ia)=a.size-1 by omega,h1 ib q2]at e;cases e
      ·omega
     dsimp only;have J1:JL L a b (out++a.extract ia (ia+k)) (ia+k) ib:=J.takeA sa (by omega) (fun i h2 h3 j h4 h5=>by
      have e:=(hB' (i-ia) (by omega)).mpr (by omega);rw[show ia+(i-ia)=i by omega]at e;have e2:=O.tot _ _ (ub _ q2) (ua _ (by omega)) (fun e=>ne i ib (by omega) q2 e.symm) (by simpa using e);by_cases v:j=ib;·rw[v];exact e2
      ·exact O.tr _ _ _ (ua _ (by omega)) (ub _ q2) (ub _ h5) e2 (sb ib j (by omega) (by omega) h5)) (by rw[EM];rfl)
     have hba:L (at' b ib) (at' a<|ia+k)=true:=by
      cases e:L (at' b ib) (at' a<|ia+k)with
      |true=>rfl
      |false=>exact absurd ((hB' k (by omega)).mp (by rw[e];rfl)) (by omega)
     by_cases v:k>0
     ·rw[if_pos v];by_cases u:ia+k+1=a.size
      ·rw[if_pos (by simpa using u)];exact DZ ⟨al,.inl ⟨_,_,rfl,endA _ (ia+k) ib _ al J1 (by omega) u⟩⟩
      ·rw[if_neg (by simpa using u),if_neg (by simp;omega)];exact pB _ _ _ _ _ _ _ al J1 (by omega) q2 (by omega) hba
     ·rw[if_neg v];have:k=0:=by omega
      subst this;exact pB _ _ _ _ _ _ _ al J q1 q2 (by omega) hba
end
def kq:Array E2->Array E2->StateT FI Sem (Array E2):=sortPriv%PySem.Builtin.mergeHi
theorem nJ(a b:Array E2):kq a b=(do
 rule "list.sort.merge-hi"
 let total:=a.size+b.size
 let done (out:Array E2) (na nb:Nat):=a.extract 0 na++b.extract 0 nb++out.reverse
 let firstOfB (out:Array E2) (na nb:Nat):=b.extract 0 nb++a.extract 0 na++out.reverse
 let mut na:=a.size-1
 let mut nb:=b.size
 let mut out:Array E2:= #[<-elem' a na]
 if na==0 then return done out na nb
 if nb==1 then return firstOfB out na nb
 let mut minGallop:=gallopOf (<-get)
 for _ in [0:total]do
  let mut acount:=0
  let mut bcount:=0
  for _ in [0:total]do
   let some aWins <-lt' (<-elem' b (nb-1)) (<-elem' a (na-1))|return done out na nb
   if aWins then
    na:=na-1;out:=out.push<|<-elem' a na;acount:=acount+1;bcount:=0
    if na==0 then return done out na nb
    if acount≥minGallop then break
   else
    nb:=nb-1;out:=out.push<|<-elem' b nb;bcount:=bcount+1;acount:=0
    if nb==1 then return firstOfB out na nb
    if bcount≥minGallop then break
  rule "list.sort.gallop"
  minGallop:=minGallop+1
  for _ in [0:total]do
   if minGallop>1 then minGallop:=minGallop-1
   ip minGallop
   let some at_ <-dq false (<-elem' b (nb-1)) a 0 na (na-1)|return done out na nb
   let k:=na-at_
   acount:=k
   if k>0 then
    out:=out++(a.extract at_ na).reverse;na:=at_
    if na==0 then return done out na nb
   nb:=nb-1;out:=out.push (<-elem' b nb)
   if nb==1 then return firstOfB out na nb
   let some at_ <-dq true (<-elem' a (na-1)) b 0 nb (nb-1)|return done out na nb
   let k:=nb-at_
   bcount:=k
   if k>0 then
    out:=out++(b.extract at_ nb).reverse;nb:=at_
    if nb==1 then return firstOfB out na nb
    if nb==0 then return done out na nb
   na:=na-1;out:=out.push (<-elem' a na)
   if na==0 then return done out na nb
   if acount<7&&bcount<7 then break
  minGallop:=minGallop+1
  ip minGallop
 unsupported "internal:list.sort.merge-bound"):=rfl
structure JH(L:E2->E2->Bool)(a b out:Array E2)(na nb:Nat):Prop where
 pm:out.toList.reverse.Perm (ext' a na a.size++ext' b nb b.size)
 so:out.toList.reverse.Pairwise (fun x y=>L x y=true)
 hi:∀x∈out.toList,(∀i,i<na->L (at' a i) x=true)/\∀j,j<nb->L (at' b j) x=true
section
variable{L:E2->E2->Bool}{a b out:Array E2}{na nb:Nat}
theorem JH.takeA(J:JH L a b out na nb)(sa:Sr L a 0 a.size)(hn:na<=a.size){m:Nat}(hm:m<=na)(h:∀i,m<=i->i<na->∀j,j<nb->L (at' b j) (at' a i)=true){out':Array E2}(ho:out'.toList.reverse=ext' a m na++out.toList.reverse):JH L a b out' m nb:=by
 have mem:∀x,x∈out'.toList↔x∈ext' a m na\/x∈out.toList:=fun x=>by rw[<-Ga,ho,EI,Ga]
 refine⟨?_,?_,fun x hx=>?_⟩
 ·rw[ho,cV (xs:=a) hm hn,Eb];exact Fu _ J.pm
 ·rw[ho,Fy];refine⟨gf sa (Eh _) hn<|DQ _,J.so,fun x hx y hy=>?_⟩;obtain⟨i,h1,h2,rfl⟩:=(bO hn).mp hx;exact(J.hi y<|Ga.mp hy).1 i h2
 ·rcases (mem x).mp hx with hx | hx
  ·obtain⟨i,h1,h2,rfl⟩:=(bO hn).mp hx;exact⟨fun i' h3=>sa i' i (Eh _) (by omega) (by omega),h i h1 h2⟩
  ·exact⟨fun i h1=>(J.hi x hx).1 i (by omega),(J.hi x hx).2⟩
theorem JH.takeB(J:JH L a b out na nb)(sb:Sr L b 0 b.size)(hn:nb<=b.size){m:Nat}(hm:m<=nb)(h:∀j,m<=j->j<nb->∀i,i<na->L (at' a i) (at' b j)=true){out':Array E2}(ho:out'.toList.reverse=ext' b m nb++out.toList.reverse):JH L a b out' na m:=by
 have mem:∀x,x∈out'.toList↔x∈ext' b m nb\/x∈out.toList:=fun x=>by rw[<-Ga,ho,EI,Ga]
 refine⟨?_,?_,fun x hx=>?_⟩
 ·rw[ho,cV (xs:=b) hm hn];refine(Fu _ J.pm).trans ?_;rw[<-Eb,<-Eb];exact Fo _ Gy
 ·rw[ho,Fy];refine⟨gf sb (Eh _) hn<|DQ _,J.so,fun x hx y hy=>?_⟩;obtain⟨i,h1,h2,rfl⟩:=(bO hn).mp hx;exact(J.hi y<|Ga.mp hy).2 i h2
 ·rcases (mem x).mp hx with hx | hx
  ·obtain⟨i,h1,h2,rfl⟩:=(bO hn).mp hx;exact⟨h i h1 h2,fun i' h3=>sb i' i (Eh _) (by omega) (by omega)⟩
  ·exact⟨(J.hi x hx).1,fun i h1=>(J.hi x hx).2 i (by omega)⟩
theorem JH.fin(J:JH L a b out na nb)(sa:Sr L a 0 a.size)(sb:Sr L b 0 b.size)(ha:na<=a.size)(hb:nb<=b.size)(h:∀j,j<nb->∀i,i<na->L (at' b j) (at' a i)=true){r:List E2}(hr:r=ext' b 0 nb++ext' a 0 na++out.toList.reverse):
  r.Perm (a.toList++b.toList)/\r.Pairwise (fun x y=>L x y=true):=by
 subst hr;constructor
 ·have e1:a.toList=ext' a 0 na++ext' a na a.size:=by rw[<-cV (Eh _) ha,ik]
  have e2:b.toList=ext' b 0 nb++ext' b nb b.size:=by rw[<-cV (Eh _) hb,ik]
  rw[e1,e2];refine(Fu _ J.pm).trans ?_;generalize ext' a 0 na=p;generalize ext' a na a.size=q;generalize ext' b 0 nb=u;generalize ext' b nb b.size=v;refine(Fo (q++v)<|Gy (l₁:=u) (l₂:=p)).trans ?_;rw[Eb,Eb];refine Fu _ ?_;rw[<-Eb,<-Eb];exact Fo _ Gy
 ·rw[Eb,Fy,Fy];refine⟨gf sb (Eh _) hb<|DQ _,⟨gf sa (Eh _) ha<|DQ _,J.so,fun x hx y hy=>?_⟩,fun x hx y hy=>?_⟩
  ·obtain⟨i,h1,h2,rfl⟩:=(bO ha).mp hx;exact(J.hi y<|Ga.mp hy).1 i h2
  ·obtain⟨j,h1,h2,rfl⟩:=(bO hb).mp hx;rcases EI.mp hy with hy|hy
   ·obtain⟨i,h3,h4,rfl⟩:=(bO ha).mp hy;exact h j h2 i h4
   ·exact(J.hi y<|Ga.mp hy).2 j h2
end
section
variable{M:K5}{A:EB}{E:DM->DN->Prop}{s:DN}{κ:IB}{U:E2->Prop}{L:E2->E2->Bool}{st:FI}
theorem nK(out:Array E2)(x:E2):(out.push x).toList.reverse=x::out.toList.reverse:=by rw[Gg,KH];rfl
theorem m8(out xs:Array E2):(out++xs.reverse).toList.reverse=xs.toList++out.toList.reverse:=by rw[EM,KH,ID,List.reverse_reverse]
theorem m9{xs:Array E2}{i:Nat}(h:0<i)(hi:i<=xs.size):ext' xs (i-1) i=[at' xs (i-1)]:=by
 have:=ft (xs:=xs) (a:=i-1) (b:=i-1) (by omega)<|DQ _;rw[show i-1+1=i by omega,dt]at this;exact this
theorem oX(O:LtOk M A E s κ U L){a b:Array E2}{Q:Array E2->FI->Prop}(kd:kindOf st=κ)(ua:∀i,i<a.size->U (at' a i))(ub:∀i,i<b.size->U (at' b i))(za:0<a.size)(zb:0<b.size)(sa:Sr L a 0 a.size)(sb:Sr L b 0 b.size)
  (ne:∀i j,i<a.size->j<b.size->at' a i≠at' b j) (h0:L (at' b 0) (at' a 0)=true) (h1:∀j,j<b.size->L (at' b j) (at' a<|a.size-1)=true)
  (h:∀r st',cg st st'->r.toList.Perm (a.toList++b.toList)->r.toList.Pairwise (fun x y=>L x y=true)->Q r st'):wpS M A E s (kq a b) Q st:=by
 have b0:∀i,i<a.size->L (at' b 0) (at' a i)=true:=fun i hi=>by
  by_cases z:i=0;·rw[z];exact h0
  ·exact O.tr _ _ _ (ub 0 zb) (ua 0 za) (ua i hi) h0 (sa 0 i (DQ _) (by omega) hi)
 rw[nJ];refine DT<|JO<|G6 ⟨rfl,?_⟩;dsimp only;refine DT (bf (by omega) ?_);have J0:JH L a b #[at' a (a.size-1)] (a.size-1) b.size:=by
  refine⟨?_,HW _ _,fun x hx=>?_⟩;·rw[m9 za<|DQ _,dt];exact .refl _
  ·have:x=at' a (a.size- 1):=by simpa using hx
   subst this;exact⟨fun i h2=>sa i _ (Eh _) h2 (by omega),fun j h2=>h1 j h2⟩
 have endA:∀(out:Array E2)na nb st',cg st st'->JH L a b out na nb->nb<=b.size->na=0->Q (a.extract 0 na++b.extract 0 nb++out.reverse) st':=fun out na nb st' al J h2 h3=>by
  subst h3;have:=J.fin sa sb (Eh _) h2 (fun j h3 i h4=>by omega) (r:=(a.extract 0 0++b.extract 0 nb++out.reverse).toList) (by
   rw[EM,EM,ID];show ext' a 0 0++ext' b 0 nb++out.toList.reverse=_;rw[dt,LW,Gi])
  exact h _ st' al this.1 this.2
 have endB:∀(out:Array E2)na nb st',cg st st'->JH L a b out na nb->na<=a.size->nb=1->Q (b.extract 0 nb++a.extract 0 na++out.reverse) st':=fun out na nb st' al J h2 h3=>by
  have:=J.fin sa sb h2 (by omega) (fun j h4 i h5=>by
   have:j=0:=by omega
   rw[this];exact b0 i (by omega)) (r:=(b.extract 0 nb++a.extract 0 na++out.reverse).toList) (by rw[EM,EM,ID];rfl)
  exact h _ st' al this.1 this.2
 have al0:cg st st:=⟨rfl,rfl,rfl,rfl⟩
 by_cases z1:a.size-1=0
 ·rw[if_pos (by simpa using z1)];exact DZ<|endA _ _ _ st al0 J0 (DQ _) z1
 rw[if_neg (by simpa using z1)];by_cases z2:b.size=1
 ·rw[if_pos (by simpa using z2)];exact DZ (endB _ _ _ st al0 J0 (by omega) z2)
 rw[if_neg (by simpa using z2)];refine DT<|Ig ?_;refine DT<|GX (F9 (I:=fun x c st'=>cg st st'/\∃na nb out g,c=(none,na,nb,out,g)/\JH L a b out na nb/\0<na/\1<nb/\na<=a.size/\nb<=b.size/\na+nb+x+1<=a.size+b.size) (Q:=fun c st'=>cg st st'/\∃r rest,c=(some r,rest)/\Q r st') ?step ?fin ?init) ?post
 case init=>exact⟨al0,_,_,_,_,rfl,J0,by omega,by omega,by omega,by omega,by omega⟩
 case fin=>
  rintro c st' ⟨al,na,nb,out,g,rfl,J,q1,q2,q3,q4,q5⟩;omega
 case post=>
  rintro c st' ⟨al,r,rest,rfl,hq⟩;exact DZ hq
 case step=>
  rintro x c st1 _ hx ⟨al,na,nb,out,g,rfl,J,q1,q2,q3,q4,q5⟩;dsimp only;have ta:∀(out:Array E2)na nb,JH L a b out na nb->0<na->na<=a.size->0<nb->nb<=b.size->L (at' b<|nb-1) (at' a<|na-1)=true->JH L a b (out.push<|at' a<|na-1) (na-1) nb:=fun out na nb J q1 q3 q2 q4 hw=>
   J.takeA sa q3 (m:=na-1) (by omega) (fun i h2 h3 j h4=>by
    have:i=na-1:=by omega
    subst this;by_cases z:j=nb-1;·rw[z];exact hw
    ·exact O.tr _ _ _ (ub _ (by omega)) (ub _ (by omega)) (ua _ (by omega)) (sb j (nb-1) (Eh _) (by omega) (by omega)) hw) (by rw[nK,m9 q1 q3];rfl)
  have tb:∀(out:Array E2)na nb,JH L a b out na nb->0<nb->nb<=b.size->na<=a.size->(∀i,i<na->L (at' a i) (at' b<|nb-1)=true)->JH L a b (out.push<|at' b<|nb-1) na (nb-1):=fun out na nb J q1 q3 q4 hw=>
   J.takeB sb q3 (m:=nb-1) (by omega) (fun j h2 h3 i h4=>by
    have:j=nb-1:=by omega
    subst this;exact hw i h4) (by rw[nK,m9 q1 q3];rfl)
  refine DT (GX (F9 (I:=fun y c st'=>st'=st1/\∃na nb out ac bc,c=(none,na,nb,out,ac,bc)/\JH L a b out na nb/\0<na/\1<nb/\na<=a.size/\nb<=b.size/\na+nb+x+y+1<=a.size+b.size)
   (Q:=fun c st'=>st'=st1/\((∃r rest,c=(some r,rest)/\Q r st')\/∃na nb out ac bc,c=(none,na,nb,out,ac,bc)/\JH L a b out na nb/\0<na/\1<nb/\na<=a.size/\nb<=b.size/\na+nb+x+2<=a.size+b.size)) ?step1 ?fin1 ?init1) ?post1)
  case init1=>exact⟨rfl,_,_,_,_,_,rfl,J,q1,q2,q3,q4,by omega⟩
  case fin1=>
   rintro c st' ⟨rfl,na,nb,out,ac,bc,rfl,J,q1,q2,q3,q4,q5⟩;exact⟨rfl,.inr ⟨_,_,_,_,_,rfl,J,q1,q2,q3,q4,by omega⟩⟩
  case step1=>
   rintro y c st' _ hy ⟨rfl,na,nb,out,ac,bc,rfl,J,q1,q2,q3,q4,q5⟩;dsimp only;refine DT (bf (by omega) (DT (bf (by omega) (DT (O.lt _ _ _ _ (ub _ (by omega)) (ua _ (by omega)) (al.1.trans kd) ?_)))));cases hw:L (at' b<|nb-1) (at' a<|na-1)with
   |true=>
    dsimp only;rw[if_pos rfl];refine DT (bf (by omega) ?_);have J':=ta out na nb J q1 q3 (by omega) q4 hw;by_cases z:na-1=0
    ·rw[if_pos (by simpa using z)];exact DZ ⟨rfl,.inl ⟨_,_,rfl,endA _ _ _ _ al J' q4 z⟩⟩
    ·rw[if_neg (by simpa using z)];by_cases w:ac+1≥g;·rw[if_pos w];exact DZ ⟨rfl,.inr ⟨_,_,_,_,_,rfl,J',by omega,q2,by omega,q4,by omega⟩⟩
     ·rw[if_neg w];exact DZ ⟨rfl,_,_,_,_,_,rfl,J',by omega,q2,by omega,q4,by omega⟩
   |false=>
    dsimp only;rw[if_neg (by decide)];refine DT (bf (by omega) ?_);have hw':=O.tot _ _ (ub _ (by omega)) (ua _ (by omega)) (fun e=>ne (na-1) (nb-1) (by omega) (by omega) e.symm) hw;have J':=tb out na nb J (by omega) q4 q3 (fun i hi=>by
     by_cases z:i=na-1;·rw[z];exact hw'
     ·exact O.tr _ _ _ (ua _ (by omega)) (ua _ (by omega)) (ub _ (by omega)) (sa i (na-1) (Eh _) (by omega) (by omega)) hw')
    by_cases z:nb-1=1
    ·rw[if_pos (by simpa using z)];exact DZ ⟨rfl,.inl ⟨_,_,rfl,endB _ _ _ _ al J' q3 z⟩⟩
    ·rw[if_neg (by simpa using z)];by_cases w:bc+1≥g;·rw[if_pos w];exact DZ ⟨rfl,.inr ⟨_,_,_,_,_,rfl,J',q1,by omega,q3,by omega,by omega⟩⟩
     ·rw[if_neg w];exact DZ ⟨rfl,_,_,_,_,_,rfl,J',q1,by omega,q3,by omega,by omega⟩
  case post1=>
   rintro c st' ⟨rfl,⟨r,rest,rfl,hq⟩|⟨na,nb,out,ac,bc,rfl,J,q1,q2,q3,q4,q5⟩⟩;·exact DZ ⟨al,_,_,rfl,hq⟩
   dsimp only;refine DT<|JO<|G6 ⟨rfl,?_⟩;refine DT (GX (F9 (I:=fun y c st'=>cg st st'/\∃na nb out g ac bc,c=(none,na,nb,out,g,ac,bc)/\JH L a b out na nb/\0<na/\1<nb/\na<=a.size/\nb<=b.size/\na+nb+x+2<=a.size+b.size)
    (Q:=fun c st'=>cg st st'/\((∃r rest,c=(some r,rest)/\Q r st')\/∃na nb out g ac bc,c=(none,na,nb,out,g,ac,bc)/\JH L a b out na nb/\0<na/\1<nb/\na<=a.size/\nb<=b.size/\na+nb+x+2<=a.size+b.size)) ?step2 ?fin2 ?init2) ?post2)
   case init2=>exact⟨al,_,_,_,_,_,_,rfl,J,q1,q2,q3,q4,q5⟩
   case fin2=>exact fun c st'⟨al,na,nb,out,g,ac,bc,e,J,q⟩=>⟨al,.inr ⟨na,nb,out,g,ac,bc,e,J,q⟩⟩
   case post2=>
    rintro c st' ⟨al,⟨r,rest,rfl,hq⟩|⟨na,nb,out,g,ac,bc,rfl,J,q1,q2,q3,q4,q5⟩⟩;·exact DZ ⟨al,_,_,rfl,hq⟩
    ·dsimp only;refine DT (FQ (DZ ⟨al,_,_,_,_,rfl,J,q1,q2,q3,q4,by omega⟩))
   case step2=>
    rintro y c st' _ hy ⟨al,na,nb,out,g,ac,bc,rfl,J,q1,q2,q3,q4,q5⟩;dsimp only
    let C:=Option (Array E2)×Nat×Nat×Array E2×Nat×Nat×Nat
    let R:ForInStep C->FI->Prop:=fun r st'=>match r with
     | .done c=>cg st st'/\((∃r rest,c=(some r,rest)/\Q r st')\/∃na nb out g ac bc,c=(none,na,nb,out,g,ac,bc)/\JH L a b out na nb/\0<na/\1<nb/\na<=a.size/\nb<=b.size/\na+nb+x+2<=a.size+b.size)
     | .yield c=>cg st st'/\∃na nb out g ac bc,c=(none,na,nb,out,g,ac,bc)/\JH L a b out na nb/\0<na/\1<nb/\na<=a.size/\nb<=b.size/\na+nb+x+2<=a.size+b.size
    have pC:∀(out:Array E2)na nb g k k1 st',cg st st'->JH L a b out na nb->0<na->1<nb->na<=a.size->nb<=b.size->na+nb+x+2<=a.size+b.size->L (at' b<|nb-1) (at' a<|na-1)=true->wpS M A E s (do
      let x <-elem' a (na-1)
      if(na-1==0)=true then pure (Ei (some<|a.extract 0 (na-1)++b.extract 0 nb++(out.push x).reverse,na-1,nb,out.push x,g,k,k1))
      else if(decide (k<7)&&decide (k1<7))=true then pure (Ei (none,na-1,nb,out.push x,g,k,k1))
      else pure (Et (none,na-1,nb,out.push x,g,k,k1))) R st':=by
     intro out na nb g k k1 st' al J q1 q2 q3 q4 q5 hba;refine DT (bf (by omega) ?_);have J':=ta out na nb J q1 q3 (by omega) q4 hba;by_cases z:na-1=0
     ·rw[if_pos (by simpa using z)];exact DZ ⟨al,.inl ⟨_,_,rfl,endA _ _ _ _ al J' q4 z⟩⟩
     ·rw[if_neg (by simpa using z)];by_cases w:(decide (k<7)&&decide (k1<7))=true;·rw[if_pos w];exact DZ ⟨al,.inr ⟨_,_,_,_,_,_,rfl,J',by omega,q2,by omega,q4,by omega⟩⟩
      ·rw[if_neg w];exact DZ ⟨al,_,_,_,_,_,_,rfl,J',by omega,q2,by omega,q4,by omega⟩
    have pB:∀(out:Array E2)na nb g k bc st',cg st st'->JH L a b out na nb->0<na->1<nb->na<=a.size->nb<=b.size->na+nb+x+2<=a.size+b.size->(∀i,i<na->L (at' a i) (at' b<|nb-1)=true)->wpS M A E s (do
      let x <-elem' b (nb-1)
      if(nb-1==1)=true then pure (Ei (some<|b.extract 0 (nb-1)++a.extract 0 na++(out.push x).reverse,na,nb-1,out.push x,g,k,bc))
      else
       let y <-elem' a (na-1)
       let some m <-dq true y b 0 (nb-1) (nb-1-1)|pure (Ei (some<|a.extract 0 na++b.extract 0 (nb-1)++(out.push x).reverse,na,nb-1,out.push x,g,k,bc))
       if nb-1-m>0 then
        if(m==1)=true then pure (Ei (some<|b.extract 0 m++a.extract 0 na++(out.push x++(b.extract m<|nb-1).reverse).reverse,na,m,out.push x++(b.extract m<|nb-1).reverse,g,k,nb-1-m))
        else if(m==0)=true then pure (Ei (some<|a.extract 0 na++b.extract 0 m++(out.push x++(b.extract m<|nb-1).reverse).reverse,na,m,out.push x++(b.extract m<|nb-1).reverse,g,k,nb-1-m))
        else
         let z <-elem' a (na-1)
         if(na-1==0)=true then pure (Ei (some<|a.extract 0 (na-1)++b.extract 0 m++((out.push x++(b.extract m<|nb-1).reverse).push z).reverse,na-1,m,(out.push x++(b.extract m<|nb-1).reverse).push z,g,k,nb-1-m))
         else if(decide (k<7)&&decide (nb-1-m<7))=true then pure (Ei (none,na-1,m,(out.push x++(b.extract m<|nb-1).reverse).push z,g,k,nb-1-m))
         else pure (Et (none,na-1,m,(out.push x++(b.extract m<|nb-1).reverse).push z,g,k,nb-1-m))
       else
        let z <-elem' a (na-1)
        if(na-1==0)=true then pure (Ei (some<|a.extract 0 (na-1)++b.extract 0 (nb-1)++((out.push x).push z).reverse,na-1,nb-1,(out.push x).push z,g,k,nb-1-m))
        else if(decide (k<7)&&decide (nb-1-m<7))=true then pure (Ei (none,na-1,nb-1,(out.push x).push z,g,k,nb-1-m))
        else pure (Et (none,na-1,nb-1,(out.push x).push z,g,k,nb-1-m))) R st':=by
     intro out na nb g k bc st' al J q1 q2 q3 q4 q5 hab;refine DT (bf (by omega) ?_);have J':=tb out na nb J (by omega) q4 q3 hab;by_cases z:nb-1=1
     ·rw[if_pos (by simpa using z)];exact DZ ⟨al,.inl ⟨_,_,rfl,endB _ _ _ _ al J' q3 z⟩⟩
     rw[if_neg (by simpa using z)];refine DT (bf (by omega) (DT (cM O (ua _ (by omega)) (fun i hi=>ub _ (by omega)) (by omega) (by omega) (al.1.trans kd) (fun i j hij hj hB=>?_) fun m hm hB=>?_)))
     ·have hB':L (at' b<|0+j) (at' a<|na- 1)=true:=hB;show L (at' b<|0+i) (at' a<|na-1)=true;rw[Gp]at hB' ⊢;exact O.tr _ _ _ (ub _ (by omega)) (ub _ (by omega)) (ua _ (by omega)) (sb i j (Eh _) hij (by omega)) hB'
     have hB':∀i,i<nb-1->(L (at' b i) (at' a<|na-1)=true↔i<m):=fun i hi=>by
      have e:L (at' b<|0+i) (at' a<|na-1)=true↔i<m:=hB i hi
      rwa [Gp]at e
     have m1:1<=m:=(hB' 0 (by omega)).mp (b0 _ (by omega));dsimp only;have J2:JH L a b (out.push (at' b<|nb-1)++(b.extract m<|nb-1).reverse) na m:=J'.takeB sb (by omega) hm (fun j h2 h3 i h4=>by
      have e:L (at' b j) (at' a<|na-1)=false:=by
       cases e:L (at' b j) (at' a<|na-1)with
       |false=>rfl
       |true=>exact absurd ((hB' j h3).mp e) (by omega)
      have e2:=O.tot _ _ (ub _ (by omega)) (ua _ (by omega)) (fun e=>ne (na-1) j (by omega) (by omega) e.symm) e;by_cases w:i=na-1;·rw[w];exact e2
      ·exact O.tr _ _ _ (ua _ (by omega)) (ua _ (by omega)) (ub _ (by omega)) (sa i (na-1) (Eh _) (by omega) (by omega)) e2) (by rw[m8];rfl)
     have ba:L (at' b<|m-1) (at' a<|na-1)=true:=(hB' (m-1) (by omega)).mpr (by omega);by_cases w:nb-1-m>0
     ·rw[if_pos w];by_cases v:m=1
      ·rw[if_pos (by simpa using v)];exact DZ ⟨al,.inl ⟨_,_,rfl,endB _ _ _ _ al J2 q3 v⟩⟩
      ·rw[if_neg (by simpa using v),if_neg (by simp;omega)];exact pC _ _ _ _ _ _ _ al J2 q1 (by omega) q3 (by omega) (by omega) ba
     ·rw[if_neg w];have:m=nb-1:=by omega
      subst this;exact pC _ _ _ _ _ _ _ al J' q1 (by omega) q3 (by omega) (by omega) ba
    by_cases w:g>1
    ·rw[if_pos w];refine DT (FQ (DT (bf (by omega) (DT (cM O (ub _ (by omega)) (fun i hi=>ua _ (by omega)) (by omega) (by omega) (al.1.trans kd) (fun i j hij hj hB=>?_) fun m hm hB=>?_)))))
     ·have hB':(!L (at' b<|nb- 1) (at' a<|0+j))=true:=hB;show(!L (at' b<|nb-1) (at' a<|0+i))=true;rw[Gp]at hB' ⊢;cases e:L (at' b<|nb-1) (at' a i)with
      |false=>rfl
      |true=>
       rw[O.tr _ _ _ (ub _ (by omega)) (ua _ (by omega)) (ua _ (by omega)) e (sa i j (Eh _) hij (by omega))]at hB';exact hB'
     have hB':∀i,i<na->((!L (at' b<|nb-1) (at' a i))=true↔i<m):=fun i hi=>by
      have e:(!L (at' b<|nb-1) (at' a<|0+i))=true↔i<m:=hB i hi
      rwa [Gp]at e
     dsimp only;have J1:JH L a b (out++(a.extract m na).reverse) m nb:=J.takeA sa q3 hm (fun i h2 h3 j h4=>by
      have e:L (at' b<|nb-1) (at' a i)=true:=by
       cases e:L (at' b<|nb-1) (at' a i)with
       |true=>rfl
       |false=>exact absurd ((hB' i h3).mp (by rw[e];rfl)) (by omega)
      by_cases v:j=nb-1;·rw[v];exact e
      ·exact O.tr _ _ _ (ub _ (by omega)) (ub _ (by omega)) (ua _ (by omega)) (sb j (nb-1) (Eh _) (by omega) (by omega)) e) (by rw[m8];rfl)
     have hab:∀i,i<m->L (at' a i) (at' b<|nb-1)=true:=fun i hi=>by
      have e:=(hB' i (by omega)).mpr hi;exact O.tot _ _ (ub _ (by omega)) (ua _ (by omega)) (fun e=>ne i (nb-1) (by omega) (by omega) e.symm) (by simpa using e)
     by_cases v:na-m>0
     ·rw[if_pos v];by_cases u:m=0
      ·rw[if_pos (by simpa using u)];exact DZ ⟨al,.inl ⟨_,_,rfl,endA _ _ _ _ al J1 q4 u⟩⟩
      ·rw[if_neg (by simpa using u)];exact pB _ _ _ _ _ _ _ al J1 (by omega) q2 (by omega) q4 (by omega) hab
     ·rw[if_neg v];have:m=na:=by omega
      subst this;exact pB _ _ _ _ _ _ _ al J q1 q2 q3 q4 (by omega) hab
    ·rw[if_neg w];refine DT (FQ (DT (bf (by omega) (DT (cM O (ub _ (by omega)) (fun i hi=>ua _ (by omega)) (by omega) (by omega) (al.1.trans kd) (fun i j hij hj hB=>?_) fun m hm hB=>?_)))))
     ·have hB':(!L (at' b<|nb- 1) (at' a<|0+j))=true:=hB;show(!L (at' b<|nb-1) (at' a<|0+i))=true;rw[Gp]at hB' ⊢;cases e:L (at' b<|nb-1) (at' a i)with
      |false=>rfl
      |true=>
       rw[O.tr _ _ _ (ub _ (by omega)) (ua _ (by omega)) (ua _ (by omega)) e (sa i j (Eh _) hij (by omega))]at hB';exact hB'
     have hB':∀i,i<na->((!L (at' b<|nb-1) (at' a i))=true↔i<m):=fun i hi=>by
      have e:(!L (at' b<|nb-1) (at' a<|0+i))=true↔i<m:=hB i hi
      rwa [Gp]at e
     dsimp only;have J1:JH L a b (out++(a.extract m na).reverse) m nb:=J.takeA sa q3 hm (fun i h2 h3 j h4=>by
      have e:L (at' b<|nb-1) (at' a i)=true:=by
       cases e:L (at' b<|nb-1) (at' a i)with
       |true=>rfl
       |false=>exact absurd ((hB' i h3).mp (by rw[e];rfl)) (by omega)
      by_cases v:j=nb-1;·rw[v];exact e
      ·exact O.tr _ _ _ (ub _ (by omega)) (ub _ (by omega)) (ua _ (by omega)) (sb j (nb-1) (Eh _) (by omega) (by omega)) e) (by rw[m8];rfl)
     have hab:∀i,i<m->L (at' a i) (at' b<|nb-1)=true:=fun i hi=>by
      have e:=(hB' i (by omega)).mpr hi;exact O.tot _ _ (ub _ (by omega)) (ua _ (by omega)) (fun e=>ne i (nb-1) (by omega) (by omega) e.symm) (by simpa using e)
     by_cases v:na-m>0
     ·rw[if_pos v];by_cases u:m=0
      ·rw[if_pos (by simpa using u)];exact DZ ⟨al,.inl ⟨_,_,rfl,endA _ _ _ _ al J1 q4 u⟩⟩
      ·rw[if_neg (by simpa using u)];exact pB _ _ _ _ _ _ _ al J1 (by omega) q2 (by omega) q4 (by omega) hab
     ·rw[if_neg v];have:m=na:=by omega
      subst this;exact pB _ _ _ _ _ _ _ al J q1 q2 q3 q4 (by omega) hab
end
def gh:Nat->StateT FI Sem Bool:=sortPriv%PySem.Builtin.mergeAt
def putAt(xs:Array E2)(off:Nat)(m:Array E2):Array E2:=m.toList.zipIdx.foldl (fun a(x:E2×Nat)=>a.setIfInBounds (off+x.2) x.1) xs
theorem nL(i:Nat):gh i=(do
 let s <-get
 let (some (sa,na,power),some (sb,nb,_)):=((pendingOf s)[i]?,(pendingOf s)[i+1]?)|unsupported "internal:list.sort.pending"
 set (HB (kindOf s) (arrOf s) (((pendingOf s).setIfInBounds i (sa,na+nb,power)).eraseIdxIfInBounds (i+1)) (gallopOf s)<|failedOf s)
 let some k <-dq false (<-elem' (arrOf s) sb) (arrOf s) sa na 0|return false
 let (sa,na):=(sa+k,na-k)
 if na==0 then return true
 let some nb <-dq true (<-elem' (arrOf s) (sa+na-1)) (arrOf s) sb nb (nb-1)|return false
 if nb==0 then return true
 let x:=(arrOf s).extract sa sb
 let y:=(arrOf s).extract sb (sb+nb)
 let merged <-if na<=nb then ko x y else kq x y
 modify fun s=>setArr s (putAt (arrOf s) sa merged)
 return (failedOf (<-get)).isNone):=rfl
theorem uT:∀(m:List E2)(off j0:Nat)(xs:Array E2),off+j0+m.length<=xs.size->
  ((m.zipIdx j0).foldl (fun a(x:E2×Nat)=>a.setIfInBounds (off+x.2) x.1) xs).size=xs.size/\∀i,at' ((m.zipIdx j0).foldl (fun a(x:E2×Nat)=>a.setIfInBounds (off+x.2) x.1) xs) i=if off+j0<=i/\i<off+j0+m.length then m.getD (i-(off+j0)) (Fc,Fc)else at' xs i
 | [],off,j0,xs,h=>⟨rfl,fun i=>by rw[if_neg (by simp)];rfl⟩
 |x::m,off,j0,xs,h=>by
  simp only[GY]at h;have ih:=uT m off (j0+1) (xs.setIfInBounds (off+j0) x) (by rw[JF];omega);rw[HG,IK];refine⟨ih.1.trans<|JF ..,fun i=>?_⟩;rw[ih.2];have e:at' (xs.setIfInBounds (off+j0) x) i=if i=off+j0 then x else at' xs i:=by
   simp only[at',EL];by_cases z:i=off+j0;·rw[if_pos z,z,Array.getElem?_setIfInBounds_self_of_lt (by omega)];rfl
   ·rw[if_neg z,Array.getElem?_setIfInBounds_ne (by omega)]
  by_cases z1:off+(j0+1)<=i/\i<off+(j0+1)+m.length
  ·rw[if_pos z1,if_pos (by simp;omega),show i- (off+j0)=(i- (off+(j0+1)))+1 by omega];rfl
  ·rw[if_neg z1,e];by_cases z2:i=off+j0;·rw[if_pos z2,if_pos (by simp;omega),z2,Ic];rfl
   ·rw[if_neg z2,if_neg (by simp;omega)]
theorem uU{xs m:Array E2}{off:Nat}(h:off+m.size<=xs.size):(putAt xs off m).size=xs.size/\∀i,at' (putAt xs off m) i=if off<=i/\i<off+m.size then at' m (i-off)else at' xs i:=by
 have:=uT m.toList off 0 xs (by simpa using h);refine⟨this.1,fun i=>?_⟩;have e:=this.2 i;simp only[Nat.add_zero,Eu]at e;refine e.trans ?_;by_cases z:off<=i/\i<off+m.size
 ·rw[if_pos z,if_pos z];simp[at',EL,Ff]
 ·rw[if_neg z,if_neg z]
theorem uV{xs m:Array E2}{off:Nat}(h:off+m.size<=xs.size):(putAt xs off m).toList=ext' xs 0 off++m.toList++ext' xs (off+m.size) xs.size:=by
 obtain⟨hs,ha⟩:=uU h;apply FJ;intro i;have l1:(ext' xs 0 off).length=off:=by rw[di];simp;omega
 by_cases z:i<xs.size
 ·rw[DX,cU (by omega),ha];by_cases z1:i<off;·rw[if_neg (by omega),Eb,Ef (by omega),di,J6,EC (by omega),DX,cU z]
  ·by_cases z2:i< off+m.size;·rw[if_pos (by omega),Eb,Ea (by omega),l1,Ef (by simpa using (by omega:i-off<m.size)),DX,cU (by omega)]
   ·rw[if_neg (by omega),Ea (by simp[l1];omega),di];have:(ext' xs 0 off++m.toList).length=off+m.size:=by simp[l1]
    rw[this,EC (by omega),EZ,DX,show off+m.size+(i-(off+m.size))=i by omega,cU z]
 ·have l2:(ext' xs (off+m.size) xs.size).length=xs.size- (off+m.size):=by rw[di];simp
  rw[F0 (by simp;omega),F0 (by simp[l1,l2];omega)]
theorem uW{xs:Array E2}{a b i:Nat}(hb:b<=xs.size)(hi:i<b-a):at' (xs.extract a b) i=at' xs (a+i):=by
 have h1:i<(xs.extract a b).size:=by simp;omega
 have e:=cU h1;rw[Array.getElem?_extract_of_lt (by omega)]at e;have e2:=cU (xs:=xs) (i:=a+i) (by omega);rw[E7 (by omega)]at e2;exact(Es e).symm.trans (Es e2)
theorem uX{xs:Array E2}{a b:Nat}(hb:b<=xs.size):(xs.extract a b).size=b-a:=by simp;omega
section
variable{M:K5}{A:EB}{E:DM->DN->Prop}{s:DN}{κ:IB}{U:E2->Prop}{L:E2->E2->Bool}{a0:List E2}{st:FI}
theorem oY(O:LtOk M A E s κ U L)(hU:∀x∈a0,U x)(nd:a0.Nodup){i sa na sb nb pw pw':Nat}{Q:Bool->FI->Prop}(B:SB κ a0 st)(p1:(pendingOf st)[i]? =some (sa,na,pw))(p2:(pendingOf st)[i+1]? =some (sb,nb,pw'))(hsb:sb=sa+na)(z1:0<na)(z2:0<nb)(hz:sb+nb<=a0.length)
  (s1:Sr L (arrOf st) sa sb) (s2:Sr L (arrOf st) sb (sb+nb))
  (h:∀st',SB κ a0 st'->pendingOf st'=((pendingOf st).setIfInBounds i (sa,na+nb,pw)).eraseIdxIfInBounds (i+1)->Sr L (arrOf st') sa (sb+nb)->(∀i,i<sa\/sb+nb<=i->at' (arrOf st') i=at' (arrOf st) i)->Q true st'):wpS M A E s (gh i) Q st:=by
 have hs:=B.size;have uu:∀i,i<a0.length->U (at' (arrOf st) i):=fun i hi=>B.u hU hi;have nn:∀i j,i<a0.length->j<a0.length->i≠j->at' (arrOf st) i≠at' (arrOf st) j:=fun i j hi hj hij=>B.ne nd hi hj hij;rw[nL];refine DT<|Ig ?_;rw[p1,p2];dsimp only;refine DT<|FQ (f:=fun _=>HB (kindOf st) (arrOf st) (((pendingOf st).setIfInBounds i (sa,na+nb,pw)).eraseIdxIfInBounds (i+1)) (gallopOf st)<|failedOf st) ?_;have B1:SB κ a0 (HB (kindOf st) (arrOf st) (((pendingOf st).setIfInBounds i (sa,na+nb,pw)).eraseIdxIfInBounds (i+1)) (gallopOf st)<|failedOf st):=⟨B.kind,B.failed,B.perm⟩
 refine DT (bf (by omega) (DT (cM O (uu _ (by omega)) (fun i hi=>uu _ (by omega)) (by omega) z1 B.kind (fun i j hij hj hB=>?_) fun k hk hB=>?_)))
 ·have hB':(!L (at' (arrOf st) sb) (at' (arrOf st)<|sa+j))=true:=hB;show(!L (at' (arrOf st) sb) (at' (arrOf st)<|sa+i))=true;cases e:L (at' (arrOf st) sb) (at' (arrOf st)<|sa+i)with
  |false=>rfl
  |true=>
   rw[O.tr _ _ _ (uu _ (by omega)) (uu _ (by omega)) (uu _ (by omega)) e (s1 (sa+i) (sa+j) (by omega) (by omega) (by omega))]at hB';exact hB'
 have hB':∀i,i<na->((!L (at' (arrOf st) sb) (at' (arrOf st)<|sa+i))=true↔i<k):=hB;have lo:∀i,sa<=i->i<sa+k->L (at' (arrOf st) i) (at' (arrOf st) sb)=true:=fun i h2 h3=>by
  have e:=(hB' (i-sa) (by omega)).mpr (by omega);rw[show sa+(i-sa)=i by omega]at e;exact O.tot _ _ (uu _ (by omega)) (uu _ (by omega)) (nn _ _ (by omega) (by omega) (by omega)) (by simpa using e)
 have hi:∀i,sa+k<=i->i<sb->L (at' (arrOf st) sb) (at' (arrOf st) i)=true:=fun i h2 h3=>by
  cases e:L (at' (arrOf st) sb) (at' (arrOf st) i)with
  |true=>rfl
  |false=>exact absurd ((hB' (i-sa) (by omega)).mp (by rw[show sa+(i-sa)=i by omega,e];rfl)) (by omega)
 have lob:∀i j,sa<=i->i<sa+k->sb<=j->j<sb+nb->L (at' (arrOf st) i) (at' (arrOf st) j)=true:=fun i j h2 h3 h4 h5=>by
  by_cases y:j=sb;·rw[y];exact lo i h2 h3
  ·exact O.tr _ _ _ (uu _ (by omega)) (uu _ (by omega)) (uu _ (by omega)) (lo i h2 h3) (s2 sb j (DQ _) (by omega) h5)
 dsimp only;by_cases y0:na-k=0
 ·rw[if_pos (by simpa using y0)];refine DZ<|h _ B1 rfl (fun i j h2 h3 h4=>?_) fun _ _=>rfl;show L (at' (arrOf st) i) (at' (arrOf st) j)=true;by_cases y1:j<sb;·exact s1 i j h2 h3 y1
  ·by_cases y2:sb<=i;·exact s2 i j y2 h3 h4
   ·exact lob i j h2 (by omega) (by omega) h4
 rw[if_neg (by simpa using y0)];have elast:sa+k+(na-k)-1=sb-1:=by omega
 refine DT (bf (by omega) (DT (cM O (uu _ (by omega)) (fun i hi=>uu _ (by omega)) (by omega) (by omega) B.kind (fun i j hij hj hB=>?_) fun m hm hM=>?_)))
 ·have hB2:L (at' (arrOf st)<|sb+j) (at' (arrOf st)<|sa+k+(na- k)- 1)=true:=hB;show L (at' (arrOf st)<|sb+i) (at' (arrOf st)<|sa+k+(na-k)-1)=true;exact O.tr _ _ _ (uu _ (by omega)) (uu _ (by omega)) (uu _ (by omega)) (s2 (sb+i) (sb+j) (by omega) (by omega) (by omega)) hB2
 have hM':∀i,i<nb->(L (at' (arrOf st)<|sb+i) (at' (arrOf st)<|sb-1)=true↔i<m):=fun i hi=>by
  have e:L (at' (arrOf st)<|sb+i) (at' (arrOf st)<|sa+k+(na-k)-1)=true↔i<m:=hM i hi
  rwa [elast]at e
 have m1:0<m:=(hM' 0 z2).mp (hi _ (by omega) (by omega));dsimp only;rw[if_neg (by simp;omega)];have xz:((arrOf st).extract (sa+k) sb).size=na-k:=by rw[uX (by omega)];omega
 have yz:((arrOf st).extract sb (sb+m)).size=m:=by rw[uX (by omega)];omega
 have xa:∀i,i<na-k->at' ((arrOf st).extract (sa+k) sb) i=at' (arrOf st) (sa+k+i):=fun i hi=>uW (by omega) (by omega);have ya:∀i,i<m->at' ((arrOf st).extract sb (sb+m)) i=at' (arrOf st) (sb+i):=fun i hi=>uW (by omega) (by omega);have fin:∀(r:Array E2)st',cg (HB (kindOf st) (arrOf st) (((pendingOf st).setIfInBounds i (sa,na+nb,pw)).eraseIdxIfInBounds (i+1)) (gallopOf st)<|failedOf st) st'->r.toList.Perm (((arrOf st).extract (sa+k) sb).toList++((arrOf st).extract sb (sb+m)).toList)->r.toList.Pairwise (fun x y=>L x y=true)->
   wpS M A E s (do
    modify fun s=>setArr s (putAt (arrOf s) (sa+k) r)
    return (failedOf (<-get)).isNone) Q st':=by
  intro r st' al pm so;have e1:arrOf st'=arrOf st:=al.2.1;have rz:r.size=na-k+m:=by
   have:=pm.length_eq;rw[G5,Eu,Eu,Eu,xz,yz]at this;exact this
  have bd:sa+k+r.size<=(arrOf st').size:=by rw[e1];omega
  obtain⟨pz,pa⟩:=uU bd;have pl:=uV bd;refine DT<|FQ<|DT<|Ig<|DZ ?_;have ef:(failedOf<|setArr st'<|putAt (arrOf st') (sa+k) r).isNone=true:=by
   show(failedOf st').isNone=true;rw[al.2.2.2];show(failedOf st).isNone=true;rw[B.failed];rfl
  rw[ef];have mem:∀i,sa+k<=i->i<sb+m->∃j,sa+k<=j/\j<sb+m/\at' r (i-(sa+k))=at' (arrOf st) j:=fun i h2 h3=>by
   have hr:at' r (i-(sa+k))∈r.toList:=by rw[eX (by omega)];exact G9 _
   rcases EI.mp (pm.mem_iff.mp hr)with q|q
   ·obtain⟨j,q1,q2,q3⟩:=(bO (xs:=arrOf st) (by omega)).mp q;exact⟨j,q1,by omega,q3⟩
   ·obtain⟨j,q1,q2,q3⟩:=(bO (xs:=arrOf st) (by omega)).mp q;exact⟨j,by omega,q2,q3⟩
  refine h _ ⟨al.1.trans B.kind,by show failedOf st'=none;rw[al.2.2.2];exact B.failed,?_⟩ al.2.2.1 (fun i j h2 h3 h4=>?_) fun i h2=>?_
  ·show(putAt (arrOf st') (sa+k) r).toList.Perm a0;rw[pl,e1];refine List.Perm.trans ?_ B.perm;have ea:(arrOf st).toList=ext' (arrOf st) 0 (sa+k)++(((arrOf st).extract (sa+k) sb).toList++((arrOf st).extract sb (sb+m)).toList)++ext' (arrOf st) (sa+k+r.size) (arrOf st).size:=by
    show _=ext' (arrOf st) 0 (sa+k)++(ext' (arrOf st) (sa+k) sb++ext' (arrOf st) sb (sb+m))++ext' (arrOf st) (sa+k+r.size) (arrOf st).size;rw[show sa+k+r.size=sb+m by omega,<-cV (by omega) (by omega),<-cV (by omega) (by omega),<-cV (by omega) (by omega),ik]
   rw[ea];exact Fo _<|Fu _ pm
  ·show L (at' (putAt (arrOf st') (sa+k) r) i) (at' (putAt (arrOf st') (sa+k) r) j)=true;rw[pa,pa,e1];have hib:∀x y,sa+k<=x->x<sb+m->sb+m<=y->y<sb+nb->L (at' (arrOf st) x) (at' (arrOf st) y)=true:=fun x y g1 g2 g3 g4=>by
    have ey:L (at' (arrOf st)<|sb-1) (at' (arrOf st) y)=true:=by
     refine O.tot _ _ (uu _ (by omega)) (uu _ (by omega)) (nn _ _ (by omega) (by omega) (by omega)) ?_;cases e:L (at' (arrOf st) y) (at' (arrOf st)<|sb-1)with
     |false=>rfl
     |true=>exact absurd ((hM' (y-sb) (by omega)).mp (by rw[show sb+(y-sb)=y by omega];exact e)) (by omega)
    by_cases g5:sb<=x;·exact s2 x y g5 (by omega) g4
    ·by_cases g6:x=sb- 1;·rw[g6];exact ey
     ·exact O.tr _ _ _ (uu _ (by omega)) (uu _ (by omega)) (uu _ (by omega)) (s1 x (sb-1) (by omega) (by omega) (by omega)) ey
   by_cases c1:i<sa+k
   ·rw[if_neg (by omega)];by_cases c2:sa+k<=j/\j<sa+k+r.size
    ·rw[if_pos c2];obtain⟨q,q1,q2,q3⟩:=mem j c2.1 (by omega);rw[q3];by_cases c3:q<sb;·exact s1 i q h2 (by omega) c3
     ·exact lob i q h2 c1 (by omega) (by omega)
    ·rw[if_neg c2];by_cases c3:j<sb;·exact s1 i j h2 h3 c3
     ·exact lob i j h2 c1 (by omega) h4
   ·by_cases c4:i< sa+k+r.size
    ·rw[if_pos (by omega)];by_cases c5:j<sa+k+r.size
     ·rw[if_pos (by omega),eX (by omega),eX (by omega)];exact G4.mp so _ _ _ _ (by omega)
     ·rw[if_neg (by omega)];obtain⟨q,q1,q2,q3⟩:=mem i (by omega) (by omega);rw[q3];exact hib q j q1 q2 (by omega) h4
    ·rw[if_neg (by omega),if_neg (by omega)];exact s2 i j (by omega) h3 h4
  ·show at' (putAt (arrOf st') (sa+k) r) i=_;rw[pa,if_neg (by omega),e1]
 have xU:∀i,i<((arrOf st).extract (sa+k) sb).size->U (at' ((arrOf st).extract (sa+k) sb) i):=fun i hi=>by rw[xa i (by omega)];exact uu _ (by omega)
 have yU:∀i,i<((arrOf st).extract sb (sb+m)).size->U (at' ((arrOf st).extract sb (sb+m)) i):=fun i hi=>by rw[ya i (by omega)];exact uu _ (by omega)
 have xS:Sr L ((arrOf st).extract (sa+k) sb) 0 ((arrOf st).extract (sa+k) sb).size:=fun i j g1 g2 g3=>by rw[xa i (by omega),xa j (by omega)];exact s1 _ _ (by omega) (by omega) (by omega)
 have yS:Sr L ((arrOf st).extract sb (sb+m)) 0 ((arrOf st).extract sb (sb+m)).size:=fun i j g1 g2 g3=>by rw[ya i (by omega),ya j (by omega)];exact s2 _ _ (by omega) (by omega) (by omega)
 have xy:∀i j,i<((arrOf st).extract (sa+k) sb).size->j<((arrOf st).extract sb (sb+m)).size->at' ((arrOf st).extract (sa+k) sb) i≠at' ((arrOf st).extract sb (sb+m)) j:=fun i j g1 g2=>by rw[xa i (by omega),ya j (by omega)];exact nn _ _ (by omega) (by omega) (by omega)
 have f0:L (at' ((arrOf st).extract sb (sb+m)) 0) (at' ((arrOf st).extract (sa+k) sb) 0)=true:=by rw[xa 0 (by omega),ya 0 m1];exact hi _ (by omega) (by omega)
 have f1:∀j,j<((arrOf st).extract sb (sb+m)).size->L (at' ((arrOf st).extract sb (sb+m)) j) (at' ((arrOf st).extract (sa+k) sb)<|((arrOf st).extract (sa+k) sb).size-1)=true:=fun j g1=>by
  rw[xa _ (by omega),ya j (by omega),xz,show sa+k+(na-k-1)=sb-1 by omega];exact(hM' j (by omega)).mpr (by omega)
 by_cases w:na-k<=m
 ·rw[if_pos w];exact DT (oW O B.kind xU yU (by omega) (by omega) xS yS xy f0 f1 fin)
 ·rw[if_neg w];exact DT (oX O B.kind xU yU (by omega) (by omega) xS yS xy f0 f1 fin)
end
def qz:Nat->Nat->Nat->Nat:=sortPriv%PySem.Builtin.minRun
def oZ:Nat->Nat->Nat->Nat->Nat:=sortPriv%PySem.Builtin.power
theorem mj:sortRuns'=(do
 let size:=(arrOf<|<-get).size
 let minrun:=qz size size 0
 let mut lo:=0
 for _ in [0:size]do
  if lo≥size then break
  let some found <-countRun' lo (size-lo)|return
  let mut n:=found
  if n<minrun then
   rule "list.sort.binary-insertion"
   let force:=min (size-lo) minrun
   if !(<-binarySort' lo force n)then return
   n:=force
  if let some (s1,n1,_):=(pendingOf<|<-get).back? then
   let pw:=oZ size (2*s1+n1) (2*s1+n1+n1+n) size
   for _ in [0:size]do
    let p:=pendingOf (<-get)
    let some (_,_,older):=(if p.size>1 then p[p.size-2]? else none)|break
    if older<=pw then break
    if !(<-gh (p.size-2))then return
   modify fun s=>HB (kindOf s) (arrOf s) ((pendingOf s).modify ((pendingOf s).size-1) fun(st,len,_)=>(st,len,pw)) (gallopOf s) (failedOf s)
  modify fun s=>HB (kindOf s) (arrOf s) ((pendingOf s).push (lo,n,0)) (gallopOf s) (failedOf s)
  lo:=lo+n
 for _ in [0:size]do
  let p:=pendingOf (<-get)
  if p.size<=1 then break
  let i:=p.size-2
  let before:=if i>0 then p[i-1]?.map (·.2.1)else none
  let i:=if before.any (· <(p[i+1]?.elim 0 (·.2.1)))then i-1 else i
  if !(<-gh i)then return):=rfl
def rsP(p:Array (Nat×Nat×Nat)):List (Nat×Nat):=p.toList.map fun t=>(t.1,t.2.1)
def Chain:Nat->List (Nat×Nat)->Nat->Prop
 |a,[],b=>a=b
 |a,t::r,b=>t.1=a/\0<t.2/\Chain (a+t.2) r b
theorem dU:∀(l r:List (Nat×Nat))(a b:Nat),Chain a (l++r) b↔∃c,Chain a l c/\Chain c r b
 | [],r,a,b=>⟨fun h=>⟨a,rfl,h⟩,fun⟨c,h1,h2⟩=>by cases h1;exact h2⟩
 |t::l,r,a,b=>by
  constructor
  ·rintro ⟨h1,h2,h3⟩;obtain⟨c,h4,h5⟩:=(dU l r _ b).mp h3;exact⟨c,⟨h1,h2,h4⟩,h5⟩
  ·rintro ⟨c,⟨h1,h2,h4⟩,h5⟩;exact⟨h1,h2,(dU l r _ b).mpr ⟨c,h4,h5⟩⟩
theorem fu:∀{l:List (Nat×Nat)}{a b:Nat},Chain a l b->a+l.length<=b/\∀t∈l,a<=t.1/\t.1+t.2<=b
 | [],a,b,h=>by cases h;exact⟨by simp,fun t ht=>by cases ht⟩
 |t::l,a,b,⟨h1,h2,h3⟩=>by
  have ih:=fu h3;refine⟨by have:=ih.1;simp;omega,fun u hu=>?_⟩;rcases E1.mp hu with rfl|hu
  ·have:=ih.1;omega
  ·have:=ih.2 u hu;omega
structure Rn(L:E2->E2->Bool)(p:Array (Nat×Nat×Nat))(xs:Array E2)(lo:Nat):Prop where
 ch:Chain 0 (rsP p) lo
 so:∀t∈rsP p,Sr L xs t.1<|t.1+t.2
theorem mm{α:Type}:∀(l:List α)(i:Nat)(x y:α),l[i]? =some x->l[i+1]? =some y->l=l.take i++x::y::l.drop (i+2)
 | [],i,x,y,h,_=>by simp at h
 |a::l,0,x,y,h1,h2=>by
  cases l with
  |nil=>simp at h2
  |cons b l=>
   simp at h1 h2;subst h1 h2;simp
 |a::l,i+1,x,y,h1,h2=>by
  have:=mm l i x y (by simpa using h1) (by simpa using h2);simp only[List.take_succ_cons,List.drop_succ_cons,List.cons_append];exact congrArg (a:: ·) this
theorem nM{p:Array (Nat×Nat×Nat)}{i:Nat}{x y z:Nat×Nat×Nat}(h1:p[i]? =some x)(h2:p[i+1]? =some y):((p.setIfInBounds i z).eraseIdxIfInBounds (i+1)).toList=p.toList.take i++z::p.toList.drop (i+2):=by
 have hl:i+1<p.size:=(G0.mp h2).1;have e:=mm p.toList i x y (by rw[DX];exact h1) (by rw[DX];exact h2);have e1:((p.setIfInBounds i z).eraseIdxIfInBounds (i+1)).toList=(p.toList.set i z).eraseIdx (i+1):=by
  rw[Ih,Hz]
 rw[e1];have tl:(p.toList.take i).length=i:=by simp;omega
 conv=>lhs;rw[e]
 rw[List.set_append_right _ _ (by omega),tl,Ic,List.set_cons_zero,List.eraseIdx_append_of_length_le (by omega),tl,show i+1-i=1 by omega];rfl
theorem Rn.merge{L:E2->E2->Bool}{p:Array (Nat×Nat×Nat)}{xs xs':Array E2}{lo i sa na pw sb nb pw':Nat}(R:Rn L p xs lo)(h1:p[i]? =some (sa,na,pw))(h2:p[i+1]? =some (sb,nb,pw'))
  (hs:Sr L xs' sa (sb+nb)) (ho:∀i,i<sa\/sb+nb<=i->at' xs' i=at' xs i):Rn L ((p.setIfInBounds i (sa,na+nb,pw)).eraseIdxIfInBounds (i+1)) xs' lo/\sb=sa+na/\0<na/\0<nb/\sb+nb<=lo:=by
 have e:=mm p.toList i _ _ (by rw[DX];exact h1) (by rw[DX];exact h2);have er:rsP p=(p.toList.take i).map (fun t=>(t.1,t.2.1))++(sa,na)::(sb,nb)::(p.toList.drop<|i+2).map (fun t=>(t.1,t.2.1)):=by
  unfold rsP;conv=>lhs;rw[e]
  simp
 have er2:rsP ((p.setIfInBounds i (sa,na+nb,pw)).eraseIdxIfInBounds (i+1))=(p.toList.take i).map (fun t=>(t.1,t.2.1))++(sa,na+nb)::(p.toList.drop<|i+2).map (fun t=>(t.1,t.2.1)):=by
  unfold rsP;rw[nM h1 h2];simp
 have ch:=R.ch;have so:=R.so;rw[er]at ch so;generalize (p.toList.take i).map (fun t=>(t.1,t.2.1))=l1 at*
 generalize (p.toList.drop<|i+2).map (fun t=>(t.1,t.2.1))=l2 at*
 obtain⟨c,c1,c2,c3,c4,c5,c6⟩:=(dU _ _ _ _).mp ch;dsimp only at c2 c3 c4 c5 c6;subst c2;have l6:=fu c6;have l1':=fu c1;refine⟨⟨?_,fun t ht=>?_⟩,by omega,c3,c5,by omega⟩
 ·rw[er2];exact(dU _ _ _ _).mpr ⟨sa,c1,rfl,by show 0<na+nb;omega,by show Chain (sa+(na+nb)) l2 lo;rw[<-MO];exact c6⟩
 ·rw[er2]at ht;have keep:∀t:Nat×Nat,Sr L xs t.1 (t.1+t.2)->(t.1+t.2<=sa\/sb+nb<=t.1)->Sr L xs' t.1 (t.1+t.2):=fun t h h3 i j g1 g2 g3=>by
   rw[ho i (by omega),ho j (by omega)];exact h i j g1 g2 g3
  rcases EI.mp ht with ht|ht;·exact keep t (so t (by simp[ht]))<|.inl (l1'.2 t ht).2
  ·rcases E1.mp ht with rfl | ht
   ·show Sr L xs' sa (sa+(na+nb));rw[<-MO,<-c4];exact hs
   ·exact keep t (so t (by simp[ht])) (.inr (by have:=(l6.2 t ht).1;omega))
theorem Rn.two{L:E2->E2->Bool}{p:Array (Nat×Nat×Nat)}{xs:Array E2}{lo i sa na pw sb nb pw':Nat}(R:Rn L p xs lo)(h1:p[i]? =some (sa,na,pw))(h2:p[i+1]? =some (sb,nb,pw')):sb=sa+na/\0<na/\0<nb/\sb+nb<=lo/\Sr L xs sa sb/\Sr L xs sb (sb+nb):=by
 have e:=mm p.toList i _ _ (by rw[DX];exact h1) (by rw[DX];exact h2);have er:rsP p=(p.toList.take i).map (fun t=>(t.1,t.2.1))++(sa,na)::(sb,nb)::(p.toList.drop<|i+2).map (fun t=>(t.1,t.2.1)):=by
  unfold rsP;conv=>lhs;rw[e]
  simp
 have ch:=R.ch;have so:=R.so;rw[er]at ch so;obtain⟨c,c1,c2,c3,c4,c5,c6⟩:=(dU _ _ _ _).mp ch;dsimp only at c2 c3 c4 c5 c6;have l6:=fu c6;have s1:Sr L xs sa (sa+na):=so (sa,na) (by simp);have s2:Sr L xs sb (sb+nb):=so (sb,nb) (by simp);exact⟨by omega,c3,c5,by omega,by rw[show sb=sa+na by omega];exact s1,s2⟩
theorem Rn.keep{L:E2->E2->Bool}{p:Array (Nat×Nat×Nat)}{xs xs':Array E2}{lo:Nat}(R:Rn L p xs lo)(ho:∀i,i<lo->at' xs' i=at' xs i):Rn L p xs' lo:=
 ⟨R.ch,fun t ht i j g1 g2 g3=>by
  have:=(fu R.ch).2 t ht;rw[ho i (by omega),ho j (by omega)];exact R.so t ht i j g1 g2 g3⟩
theorem Rn.push{L:E2->E2->Bool}{p:Array (Nat×Nat×Nat)}{xs:Array E2}{lo n w:Nat}(R:Rn L p xs lo)(hn:0<n)(hs:Sr L xs lo (lo+n)):Rn L (p.push (lo,n,w)) xs (lo+n):=by
 have e:rsP (p.push (lo,n,w))=rsP p++[(lo,n)]:=by unfold rsP;simp
 refine⟨by rw[e];exact(dU _ _ _ _).mpr ⟨lo,R.ch,rfl,hn,rfl⟩,fun t ht=>?_⟩;rw[e]at ht;rcases EI.mp ht with ht|ht
 ·exact R.so t ht
 ·have:t=(lo,n):=by simpa using ht
  subst this;exact hs
theorem ku(p:Array (Nat×Nat×Nat))(i w:Nat):rsP (p.modify i fun(st,len,_)=>(st,len,w))=rsP p:=by
 unfold rsP;apply FJ;intro j;rw[DU,DU,DX,DX,Array.getElem?_modify];by_cases z:i=j
 ·rw[if_pos z];cases p[j]? <;>rfl
 ·rw[if_neg z]
theorem Rn.mod{L:E2->E2->Bool}{p:Array (Nat×Nat×Nat)}{xs:Array E2}{lo:Nat}(R:Rn L p xs lo)(i w:Nat):Rn L (p.modify i fun(st,len,_)=>(st,len,w)) xs lo:=⟨by rw[ku];exact R.ch,by rw[ku];exact R.so⟩
theorem qF(p:Array (Nat×Nat×Nat)):(rsP p).length=p.size:=by unfold rsP;simp
theorem sf{p:Array (Nat×Nat×Nat)}{i:Nat}{z:Nat×Nat×Nat}(h:i+1<p.size):((p.setIfInBounds i z).eraseIdxIfInBounds (i+1)).size=p.size-1:=by
 rw[<-Eu,Ih,Hz,Ky,LO,Eu,if_pos h]
section
variable{M:K5}{A:EB}{E:DM->DN->Prop}{s:DN}{κ:IB}{U:E2->Prop}{L:E2->E2->Bool}{a0:List E2}{st:FI}
theorem p0(O:LtOk M A E s κ U L)(hU:∀x∈a0,U x)(nd:a0.Nodup){i lo:Nat}{Q:Bool->FI->Prop}(B:SB κ a0 st)(R:Rn L (pendingOf st) (arrOf st) lo)(hi:i+1<(pendingOf st).size)(hlo:lo<=a0.length)
  (h:∀st',SB κ a0 st'->Rn L (pendingOf st') (arrOf st') lo->(pendingOf st').size=(pendingOf st).size-1->(∀i,lo<=i->at' (arrOf st') i=at' (arrOf st) i)->Q true st'):wpS M A E s (gh i) Q st:=by
 obtain⟨⟨sa,na,pw⟩,h1⟩:∃t,(pendingOf st)[i]? =some t:=⟨_,E7 (by omega)⟩
 obtain⟨⟨sb,nb,pw'⟩,h2⟩:∃t,(pendingOf st)[i+1]? =some t:=⟨_,E7 hi⟩
 obtain⟨t1,t2,t3,t4,t5,t6⟩:=R.two h1 h2;refine oY O hU nd B h1 h2 t1 t2 t3 (by omega) t5 t6 fun st' B' ep s' o'=>?_;have:=(R.merge h1 h2 s' o').1;refine h st' B' (by rw[ep];exact this) (by rw[ep];exact sf hi) fun i hi=>o' i (.inr (by omega))
theorem nN(O:LtOk M A E s κ U L)(hU:∀x∈a0,U x)(nd:a0.Nodup){Q:Unit->FI->Prop}(B:SB κ a0 st)(hp:pendingOf st= #[])(h:∀st',SB κ a0 st'->Sr L (arrOf st') 0 a0.length->Q () st'):wpS M A E s sortRuns' Q st:=by
 have hs:=B.size;rw[mj];refine DT<|Ig ?_;dsimp only;rw[hs];generalize qz a0.length a0.length 0=mr;refine DT<|GX (F9 (I:=fun x c st'=>SB κ a0 st'/\∃lo,c=(none,lo)/\x<=lo/\lo<=a0.length/\Rn L (pendingOf st') (arrOf st') lo) (Q:=fun c st'=>SB κ a0 st'/\∃lo,c=(none,lo)/\Rn L (pendingOf st') (arrOf st') a0.length) ?step ?fin ?init) ?post
 case init=>exact⟨B,0,rfl,DQ _,Eh _,by rw[hp];exact⟨rfl,fun t ht=>by cases ht⟩⟩
 case fin=>
  rintro c st' ⟨B',lo,rfl,q1,q2,R⟩;have:lo=a0.length:=by omega
  subst this;exact⟨B',_,rfl,R⟩
 case post=>
  rintro c st1 ⟨B1,lo,rfl,R1⟩;dsimp only;refine DT<|GX (F9 (I:=fun x c st'=>c=(none,())/\SB κ a0 st'/\Rn L (pendingOf st') (arrOf st') a0.length/\((pendingOf st').size<=1\/(pendingOf st').size+x<=a0.length)) (Q:=fun c st'=>c=(none,())/\SB κ a0 st'/\Rn L (pendingOf st') (arrOf st') a0.length/\(pendingOf st').size<=1) ?fstep ?ffin ?finit) ?fpost
  case finit=>
   refine⟨rfl,B1,R1,.inr ?_⟩;have:=(fu R1.ch).1;rw[qF]at this;omega
  case ffin=>
   rintro c st' ⟨rfl,B',R',q⟩;exact⟨rfl,B',R',by omega⟩
  case fstep=>
   rintro x c st' _ hx ⟨rfl,B',R',q⟩;refine DT<|Ig ?_;by_cases z:(pendingOf st').size<=1;·rw[if_pos z];exact DZ ⟨rfl,B',R',z⟩
   ·rw[if_neg z];have hb:∀(c:Prop)[Decidable c],(if c then(pendingOf st').size-2-1 else(pendingOf st').size-2)+1<(pendingOf st').size:=fun c _=>by split<;>omega
    refine DT<|p0 O hU nd B' R' (hb _) (DQ _) fun st2 B2 R2 e2 _=>?_;exact DZ ⟨rfl,B2,R2,by omega⟩
  case fpost=>
   rintro c st' ⟨rfl,B',R',q⟩;refine DZ<|h st' B' ?_;have ch:=R'.ch;have so:=R'.so;have hl:=qF<|pendingOf st';generalize rsP (pendingOf st')=l at*
   match l,hl with
   | [],_=>
    have:0=a0.length:=ch;intro i j g1 g2 g3;omega
   | [t],_=>
    obtain⟨c1,c2,c3⟩:=ch;have c4:0+t.2=a0.length:=c3;have:=so t (by simp);rw[c1,c4]at this;exact this
   |_::_::_,hl=>simp at hl;omega
 case step=>
  rintro x c st1 _ hx ⟨B1,lo,rfl,q1,q2,R1⟩;dsimp only;by_cases z:lo≥a0.length
  ·rw[if_pos z];have:lo=a0.length:=by omega
   subst this;exact DZ ⟨B1,_,rfl,R1⟩
  rw[if_neg z];refine DT (zH O hU nd (by omega) (by omega) B1 fun n st2 n1 n2 B2 e2 s2 o2=>?_);dsimp only;by_cases y:n<mr
  ·rw[if_pos y];refine DT<|JO<|G6 ⟨rfl,?_⟩;refine DT (xk O hU nd (by omega) (by omega) B2 s2 fun st3 B3 e3' s3 o3'=>?_);rw[if_neg (by decide)];have e3:pendingOf st3=pendingOf st1:=e3'.trans e2;have o3:∀i,i<lo->at' (arrOf st3) i=at' (arrOf st1) i:=fun i hi=>(o3' i<|.inl hi).trans (o2 i<|.inl hi);refine DT<|Ig ?_;have R3:Rn L (pendingOf st3) (arrOf st3) lo:=by rw[e3];exact R1.keep o3
   cases hb:(pendingOf st3).back? with
   |none=>
    dsimp only;exact DT (FQ (DZ ⟨⟨B3.kind,B3.failed,B3.perm⟩,lo+min (a0.length-lo) mr,rfl,by omega,by omega,R3.push (by omega) s3⟩))
   |some t=>
    obtain⟨t1,t2,t3⟩:=t;dsimp only;generalize oZ a0.length (2*t1+t2) (2*t1+t2+t2+min (a0.length-lo) mr) a0.length=pw;refine DT<|GX (F9 (I:=fun y c st'=>c=(none,())/\SB κ a0 st'/\Rn L (pendingOf st') (arrOf st') lo/\Sr L (arrOf st') lo (lo+min (a0.length-lo) mr)) (Q:=fun c st'=>c=(none,())/\SB κ a0 st'/\Rn L (pendingOf st') (arrOf st') lo/\Sr L (arrOf st') lo (lo+min (a0.length-lo) mr)) ?ms ?mf ?mi) ?mp
    case mi=>exact⟨rfl,B3,R3,s3⟩
    case mf=>exact fun c st' h=>h
    case ms=>
     rintro y c st4 _ hy ⟨rfl,B4,R4,s4⟩;refine DT<|Ig ?_;by_cases w:(pendingOf st4).size>1
     ·rw[if_pos w];obtain⟨⟨u1,u2,u3⟩,hu⟩:∃t,(pendingOf st4)[(pendingOf st4).size-2]? =some t:=⟨_,E7 (by omega)⟩
      rw[hu];dsimp only;by_cases v:u3<=pw;·rw[if_pos v];exact DZ ⟨rfl,B4,R4,s4⟩
      ·rw[if_neg v];refine DT (p0 O hU nd B4 R4 (by omega) (by omega) fun st5 B5 R5 _ o5=>?_);exact DZ ⟨rfl,B5,R5,fun i j g1 g2 g3=>by rw[o5 i g1,o5 j (by omega)];exact s4 i j g1 g2 g3⟩
     ·rw[if_neg w];exact DZ ⟨rfl,B4,R4,s4⟩
    case mp=>
     rintro c st4 ⟨rfl,B4,R4,s4⟩;dsimp only;exact DT (FQ (DT (FQ (DZ ⟨⟨B4.kind,B4.failed,B4.perm⟩,lo+min (a0.length-lo) mr,rfl,by omega,by omega,(R4.mod _ _).push (by omega) s4⟩))))
  ·rw[if_neg y];have B3:=B2;have s3:=s2;have e3:=e2;have o3:∀i,i<lo->at' (arrOf st2) i=at' (arrOf st1) i:=fun i hi=>o2 i<|.inl hi;refine DT<|Ig ?_;have R3:Rn L (pendingOf st2) (arrOf st2) lo:=by rw[e3];exact R1.keep o3
   cases hb:(pendingOf st2).back? with
   |none=>
    dsimp only;exact DT (FQ (DZ ⟨⟨B3.kind,B3.failed,B3.perm⟩,lo+n,rfl,by omega,by omega,R3.push (by omega) s3⟩))
   |some t=>
    obtain⟨t1,t2,t3⟩:=t;dsimp only;generalize oZ a0.length (2*t1+t2) (2*t1+t2+t2+n) a0.length=pw;refine DT<|GX (F9 (I:=fun y c st'=>c=(none,())/\SB κ a0 st'/\Rn L (pendingOf st') (arrOf st') lo/\Sr L (arrOf st') lo (lo+n)) (Q:=fun c st'=>c=(none,())/\SB κ a0 st'/\Rn L (pendingOf st') (arrOf st') lo/\Sr L (arrOf st') lo (lo+n)) ?ms ?mf ?mi) ?mp
    case mi=>exact⟨rfl,B3,R3,s3⟩
    case mf=>exact fun c st' h=>h
    case ms=>
     rintro y c st4 _ hy ⟨rfl,B4,R4,s4⟩;refine DT<|Ig ?_;by_cases w:(pendingOf st4).size>1
     ·rw[if_pos w];obtain⟨⟨u1,u2,u3⟩,hu⟩:∃t,(pendingOf st4)[(pendingOf st4).size-2]? =some t:=⟨_,E7 (by omega)⟩
      rw[hu];dsimp only;by_cases v:u3<=pw;·rw[if_pos v];exact DZ ⟨rfl,B4,R4,s4⟩
      ·rw[if_neg v];refine DT (p0 O hU nd B4 R4 (by omega) (by omega) fun st5 B5 R5 _ o5=>?_);exact DZ ⟨rfl,B5,R5,fun i j g1 g2 g3=>by rw[o5 i g1,o5 j (by omega)];exact s4 i j g1 g2 g3⟩
     ·rw[if_neg w];exact DZ ⟨rfl,B4,R4,s4⟩
    case mp=>
     rintro c st4 ⟨rfl,B4,R4,s4⟩;dsimp only;exact DT (FQ (DT (FQ (DZ ⟨⟨B4.kind,B4.failed,B4.perm⟩,lo+n,rfl,by omega,by omega,(R4.mod _ _).push (by omega) s4⟩))))
end
end Wb
namespace Wb
open PySem PySem.W PySem.Calls PyProof.Rows
theorem qG{α β:Type}{f:α->β}:∀{l:List α},(l.map f).Nodup->∀{x y:α},x∈l->y∈l->f x=f y->x=y
 | [],_,x,_,hx,_,_=>by cases hx
 |a::l,nd,x,y,hx,hy,e=>by
  rw[EY,G1]at nd;rcases E1.mp hx with q|q
  ·rcases E1.mp hy with q' | q';·rw[q,q']
   ·exact absurd (Ex.mpr ⟨y,q',by rw[<-e,q]⟩) nd.1
  ·rcases E1.mp hy with q' | q';·exact absurd (Ex.mpr ⟨x,q,by rw[e,q']⟩) nd.1
   ·exact qG nd.2 q q' e
theorem mn{α:Type}(l:List α):(l.zip l)=l.map fun x=>(x,x):=by
 induction l with
 |nil=>rfl
 |cons a l ih=>rw[Je,ih];rfl
section
variable{prog:E4}{w:E8}{A:EB}{E:DM->DN->Prop}{s:DN}
theorem B6{key:DM->Int×Int}{vs:List DM}(hp:∀v∈vs,PairAt s.heap v<|key v)(nd:(vs.map key).Nodup):LtOk (model prog w) A E s (tuples' true) (fun x=>x∈vs.zip vs) (fun x y=>mK (key x.1)<|key y.1) where
 lt:=fun x y st Q hx hy kd h=>by
  have h1:=hp _ (HH hx).2;have h2:=hp _ (HH hy).2;rw[lt'_eq];refine DT<|Ig<|DT<|JO<|Gr ?_;rw[kd];exact xj h1 h2 ⟨rfl,DZ h⟩
 tr:=fun x y z _ _ _ h1 h2=>zG h1 h2
 tot:=fun x y hx hy hne h=>xi (fun e=>hne (by
  have e1:=qG nd (HH hx).2 (HH hy).2 e;have:=(HH hx).1;have:=(HH hy).1;exact J9 e1 (by simp_all))) h
 irr:=fun x=>qx _
theorem uY{a:Addr}{vs:List DM}{key:DM->Int×Int}{n:Nat}{P:PySem.Fin->DN->Prop}(ho:s.heap.get? a=some (seqObj "list" vs.toArray n))(hp:∀v∈vs,PairAt s.heap v<|key v)(nd:(vs.map key).Nodup)(hl:vs.length<=sizeLine)
  (h:∀out:List DM,out.Perm vs->(out.map key).Pairwise (fun x y=>mK x y=true)->P (.done<|.ret .none) {s with heap:=sortedHeap s.heap a vs out.toArray}):
  wpAny (model prog w) A (Fw.«list.sort» ⟨[.ref a],[]⟩) P E s:=by
 rw[list_sort_plain];have ha:a<s.heap.objs.size:=DW ho;refine DF<|listItems_at ho rfl ?_;refine DF (KQ ho rfl ?_ (by rw[DY];exact hl)<|Eh _);obtain⟨e1,ho1⟩:∃e1,(s.heap.update a<|Gu fun _=> #[]).get? a=some (seqObj "list" #[] e1):=⟨_,get?_update_seq ho<|fun _=> #[]⟩
 refine DF<|LM ho1 rfl ?_;refine DF (Kw ?_ (by show vs.length<=_;exact hl));refine DF<|MP ?_<|Eh _;refine Fz ?_;have ho6:(((s.heap.update a<|Gu fun _=> #[]).push (seqObj "tuple" vs.toArray 0)).push (seqObj "list" #[] 0)).get? a=some (seqObj "list" #[] e1):=by
  rw[Lp _ _ _ (by rw[size_push',LF];exact Ed<|Jq ha),Lp _ _ _ (by rw[LF];exact Ed ha)];exact ho1
 show wpAny (model prog w) A _ P E {s with heap:=((s.heap.update a<|Gu fun _=> #[]).push (seqObj "tuple" vs.toArray 0)).push (seqObj "list" #[] 0)};dsimp only;by_cases h2:vs.toArray.size<2
 ·rw[if_pos h2,if_pos h2];refine DF<|DL ?_;rw[StateT.run_pure];refine DF<|DL ?_;dsimp only;refine DF<|LM ho6 rfl ?_;have e:(arrOf<|HB general' (vs.toArray.zip vs.toArray) #[] 7 none).map (·.2)=vs.toArray:=by
   show(vs.toArray.zip vs.toArray).map (·.2)=_;apply LG.mp;simp only[LC,Array.toList_zip,LH,DQ]
  rw[e];refine DF (KQ ho6 rfl ?_ (Eh _) (by rw[DY];exact Lq hl));simp only[bne_self_eq_false,ED,if_false];refine DL<|h vs (.refl _) ?_;have h3:vs.length<2:=by simpa using h2
  match vs,h3 with
  | [],_=>exact Hn
  | [v],_=>exact HW _ _
  |_::_::_,h3=>simp at h3;omega
 ·rw[if_neg h2,if_neg h2];have hp2:∀v∈vs,PairAt (((s.heap.update a<|Gu fun _=> #[]).push (seqObj "tuple" vs.toArray 0)).push (seqObj "list" #[] 0)) v (key v):=fun v hv=>by
   obtain⟨b,o,t1,t2,m,q2,q3,q4,q5⟩:=hp v hv;have hb:b≠a:=fun z=>by subst z;rw[ho]at q3;cases q3;exact absurd q4 (by show ¬(Il "list"=Il "tuple");decide)
   exact⟨b,o,t1,t2,m,q2,DH _<|DH _<|(I9 _ _<|HN hb).trans q3,q4,q5⟩
  obtain⟨fs,l1,l2,l3⟩:=qy (h:=((s.heap.update a<|Gu fun _=> #[]).push (seqObj "tuple" vs.toArray 0)).push (seqObj "list" #[] 0)) (vs:=vs) (ks:=vs.map key) ⟨by simp,fun i v e=>⟨key v,by rw[DU,e];rfl,hp2 v<|Ek e⟩⟩;have h3:2<=vs.length:=by simp at h2;exact h2
  refine DF (kat_kind (T:=.type "int") l2 (by rw[l1];omega) (fun v hv=>?_) (by decide) ?_)
  ·obtain⟨i,t,rfl⟩:=l3 v hv;exact .now
  rw[show(Il "int" != Il "tuple")=true from by decide];have O:=B6 (prog:=prog) (w:=w) (A:=A) (E:=E) (s:={s with heap:=((s.heap.update a<|Gu fun _=> #[]).push (seqObj "tuple" vs.toArray 0)).push (seqObj "list" #[] 0)}) hp2 nd;have za:(vs.toArray.zip vs.toArray).toList=vs.zip vs:=by simp
  have ndz:(vs.zip vs).Nodup:=by
   rw[mn,ES,GD];have nv:vs.Nodup:=ES.mpr ((GD.mp<|ES.mp nd).imp fun h e=>h (by rw[e]));exact(ES.mp nv).imp fun h e=>h<|congrArg Prod.fst e
  have lz:(vs.zip vs).length=vs.length:=by simp
  refine DF (F5 (nN (Q:=fun _ st'=>SB (tuples' true) (vs.zip vs) st'/\Sr (fun x y=>mK (key x.1)<|key y.1) (arrOf st') 0 (vs.zip vs).length) O (fun x hx=>hx) ndz (st:=HB (tuples' true) (vs.toArray.zip vs.toArray) #[] 7 none) ⟨rfl,rfl,by show(vs.toArray.zip vs.toArray).toList.Perm _;rw[za]⟩ rfl fun st' B S=>⟨B,S⟩) ?_ fun _ _ e=>e);rintro ⟨⟨⟩,st'⟩ s' ⟨rfl,B,S⟩;dsimp only at B S ⊢;have hz:=B.size;have mem:∀x∈(arrOf st').toList,x.1=x.2:=fun x hx=>(HH<|B.perm.mem_iff.mp hx).1;refine DF<|LM ho6 rfl ?_;refine DF (KQ ho6 rfl ?_ (Eh _) (by rw[Array.size_map,hz,lz];exact Lq hl));rw[B.failed];simp only[bne_self_eq_false,ED,if_false];have eo:(arrOf st').map (·.2)=((arrOf st').toList.map fun x:E2=>x.2).toArray:=by apply LG.mp;simp
  rw[eo];refine DL<|h ((arrOf st').toList.map fun x:E2=>x.2) ?_ ?_
  ·have:=B.perm.map (·.2);rw[LH<|DQ _]at this;exact this
  ·rw[FX,GD,G4];intro i j hi hj hij;have hj2:j<(arrOf st').size:=by simpa using hj
   have:=S i j (Eh _) hij (by omega);rw[eX (by simpa using hi),eX (by simpa using hj)]at this;show mK (key ((arrOf st').toList[i]).2) (key ((arrOf st').toList[j]).2)=true;rw[<-mem _ (G9 hi),<-mem _ (G9 hj)];exact this
end
section
variable{prog:E4}{w:E8}{K:Type}[DecidableEq K]{knd:KeyKind prog w K}{A:EB}{E:DM->DN->Prop}{s:DN}
theorem si{a x:Addr}{o:Obj}{es:Array (Int×DM)}{ep:Nat}{t:Fb}{led:Bool}{ks:List (List K)}{kx:List K}(hu:A.units+1<cLine)(S:SetT knd s.heap a led ks o es ep t)(hn:es.size<1000)(hx:Gv knd s.heap kx x)(hI:∀k∈kx,∀v,knd.is k v=true->∃i t,v=.int i t){Q:DM->DN->Prop}
  (h1:kx∈ks->∀tk,Q .none {s with toks:=tk}) (h2:kx∉ks->∀tk h' ks' o' es' ep' t',E6 a s.heap h'->SetT knd h' a led ks' o' es' ep' t'->ks'.Perm (kx::ks)->es'.toList.Perm ((tupleKeyHash knd kx,.ref x)::es.toList)->Q .none {s with heap:=h',toks:=tk}):
  wpAny (model prog w) A (call (.builtin "set.add") [.ref a,.ref x]) Q E s:=by
 have hT:s.TypeIs (.ref a) "set":=⟨o,S.at_,S.ex.1⟩
 refine EH F.slot_set_add hT F.entry_set_add ?_<|F.args_set_add_2 _ _;unfold Fw.«set.add» Mc;simp only[List.isEmpty_nil,bind_assoc];unfold MQ setAdd;refine DF<|DL ?_
 try dsimp only
 refine DF<|DL ?_
 try dsimp only
 refine DF ?_;refine Fz ?_;refine DF (wpAny_pyHash_tuple (show A.in1.units<cLine from hu) hx ?_);unfold setAddHashed;refine Fz (xc (s:={s with toks:=s.toks+(kx.length+1)}) (show A.in1.units<cLine from hu) S hn hx hI (fun hm=>?_) fun hm h' ks' o' es' ep' t' a1 a2 a3 a4=>?_)
 ·show wpAny _ _ (ret Fc) _ _ _;exact DL ⟨_,rfl,h1 hm _⟩
 ·show wpAny _ _ (ret Fc) _ _ _;exact DL ⟨_,rfl,h2 hm _ h' ks' o' es' ep' t' a1 a2 a3 a4⟩
end
end Wb
namespace L2
open PySem PySem.Spec PyProof.Rows Wb
structure TupsH(prog:E4)(w:E8)(K:DJ)(H:Hp)(es:List (Int×DM))(ks:List (Int×Int)):Prop where
 len:es.length=ks.length
 at_:∀(i:Nat)(e:Int×DM),es[i]? =some e->∃k b,ks[i]? =some k/\e.2=.ref b/\SqT K H b [.int k.1,.int k.2]/\e.1=tupleKeyHash (mixKind prog w) [.inl k.1,.inl k.2]
def SetH(prog:E4)(w:E8)(K:DJ)(H:Hp)(o:Obj)(ks:List (Int×Int)):Prop:=∃es ep t,SetR w o es ep t/\TupsH prog w K H es.toList ks/\ks.Nodup
def iC(k:Int×Int):List Key:=[.inl k.1,.inl k.2]
theorem jo{a b:Int×Int}(h:iC a=iC b):a=b:=by
 unfold iC at h;injection h with h1 h2;injection h2 with h2 _;injection h1 with h1;injection h2 with h2;exact J9 h1 h2
def sj:List Key->Int×Int
 | [.inl a,.inl b]=>(a,b)
 |_=>(0,0)
theorem qH(k:Int×Int):sj (iC k)=k:=rfl
noncomputable def yB(elt:Expr)(env:Env)(acc:DM):Sem Unit:=do
 let v <-eval elt env
 standAt elt.pos
 let _ <-call (.builtin "set.add") [acc,v]
def p4(prog:E4)(w:E8)(K:DJ)(te:TE):TB:=fun D σ H N=>te σ H fun y H'=>∃G o ks b k,Same G H'/\H' D=some (XO D o)/\SetH prog w K G o ks/\ks.length<1000/\y=.ref b/\SqT K G b [.int k.1,.int k.2]/\(k∈ks->N H')/\(k∉ks->∀o' ks',SetH prog w K G o' ks'->ks'.Perm (k::ks)->N (cn H' D<|XO D o'))
section
variable{Y X:Cx}{elt:Expr}{te:TE}
theorem dM{pins:List (Addr×Obj)}{σ:St}{H:Hp}{s:DN}{b:Addr}{k:Int×Int}(I:Inv X pins σ H s)(h:SqT X.K H b [.int k.1,.int k.2]):Gv (mixKind X.prog X.w) s.heap (iC k) b:=by
 obtain⟨its,r,⟨o,h1,h2,n,h3⟩,_⟩:=I.tuple h;exact⟨o,its.toArray,n,h1,h2,h3,by simpa using kY (ks:=iC k) r⟩
theorem Cz{k:Int×Int}:∀q∈iC k,∀v,(mixKind X.prog X.w).is q v=true->∃i t,v=.int i t:=fun q hq v hv=>by
 have:q=.inl k.1\/q=.inl k.2:=by simpa [iC] using hq
 rcases bF (show fP q v=true from hv)with⟨i,t,e1,rfl⟩|⟨x,t,e1,rfl⟩
 ·exact⟨i,t,rfl⟩
 ·rcases this with z|z<;>(rw[z]at e1;cases e1)
theorem zJ(hxe:Y.xe=fun _ _=>False)(hu:Y.A.units+1<cLine)(he:PE Y elt te):PB Y (yB elt Y.env) (p4 Y.prog Y.w Y.K te):=by
 intro D pins s σ H N I h;have he':=he pins s σ H _ I h;rw[hxe]at he';refine DF<|bG he' fun u s1 zz=>?_;obtain⟨y,H1,I1,r1,G,o,ks,b,k,eG,hD,hS,hl,ey,hb,h1,h2⟩:=zz;subst ey;obtain rfl:u=.ref b:=r1;refine DF<|Gq ?_;obtain⟨es,ep,t,R,T,nd⟩:=hS;have hDo:s1.heap.get? D=some o:=(I1.hok D _ hD).1;have hsz:es.size=ks.length:=by have:=T.len;simpa using this
 have U:TupsOf (mixKind Y.prog Y.w) s1.heap es.toList (ks.map iC):=⟨by rw[El];exact T.len,fun i e hi=>by
  obtain⟨k,b,q1,q2,q3,q4⟩:=T.at_ i e hi;exact⟨iC k,b,by rw[DU,q1];rfl,q2,dM I1 (Fm eG q3),q4⟩⟩
 have S:SetT (mixKind Y.prog Y.w) s1.heap D (!Y.w.params.followText "set-order") (ks.map iC) o es ep t:=⟨hDo,R.ex,R.dat,R.tab,U,NJ _ (fun a b hab e=>hab<|jo e) nd,R.led,R.pl⟩
 refine DF (si hu S (by omega) (dM I1<|Fm eG hb) Cz (fun hm tk=>?_) fun hm tk h' ks' o' es' ep' t' a1 a2 a3 a4=>?_)
 ·obtain⟨k',m1,m2⟩:=Ex.mp hm;cases jo m2;exact DL ⟨σ,H1,I1.kept<|fun _ _ z=>z,fun _ _ e=>e,h1 m1⟩
 ·have nm:k∉ks:=fun z=>hm<|Ex.mpr ⟨k,z,rfl⟩;have pk:(ks'.map sj).Perm (k::ks):=by
   have:=a3.map sj;rw[EY,FX,show(sj∘iC)=id from funext qH,Nj,qH]at this;exact this
  have TH:TupsH Y.prog Y.w Y.K G es'.toList (ks'.map sj):=⟨by rw[El];exact a2.tup.len,fun i e hi=>by
   obtain⟨kk,b',q1,q2,q3,q4⟩:=a2.tup.at_ i e hi;have src:∃k0:Int×Int,SqT Y.K G b' [.int k0.1,.int k0.2]:=by
    rcases E1.mp (a4.mem_iff.mp<|Ek hi)with z|z;·rw[z]at q2;cases q2;exact⟨k,hb⟩
    ·obtain⟨j,hj,ej⟩:=Ge.mp z;obtain⟨k0,b0,r1,r2,r3,r4⟩:=T.at_ j e (by rw[DO hj,ej]);rw[r2]at q2;cases q2;exact⟨k0,r3⟩
   obtain⟨k0,hk0⟩:=src;have e0:kk=iC k0:=q3.inj (nG (dM I1 (Fm eG hk0)) hDo R.dat a1);subst e0;exact⟨k0,b',by rw[DU,q1];rfl,q2,hk0,q4⟩⟩
  refine DL ⟨σ,_,?_,fun _ _ e=>e,h2 nm o' (ks'.map sj) ⟨es',ep',t',⟨a2.ex,a2.dat,a2.tab,a2.led,a2.pl⟩,TH,pk.nodup_iff.mpr<|G1.mpr ⟨nm,nd⟩⟩ pk⟩;exact I1.write (x:=D) (e:=D) (by rw[hD];exact Hd) (.inl rfl) (fun b u hb' z=>(a1.2 b hb').trans z) ⟨o',a2.at_⟩<|Nm a2.at_
theorem kA{pins:List (Addr×Obj)}{σ:St}{H:Hp}{s:DN}{b:Addr}{k l:Int×Int}(I:Inv X pins σ H s)(h:SqT X.K H b [.int k.1,.int k.2])(h':SqT X.K H b [.int l.1,.int l.2]):k=l:=by
 have:=I.tuple_inj h h';injection this with e1 e2;injection e2 with e2 _;injection e1 with e1;injection e2 with e2;exact J9 e1 e2
open Classical in
noncomputable def ff(K:DJ)(H:Hp)(e:Int×DM):Int×Int:=if h:∃k:Int×Int,∃b,e.2=.ref b/\SqT K H b [.int k.1,.int k.2]then h.choose else(0,0)
theorem qI{pins:List (Addr×Obj)}{σ:St}{G H:Hp}{s:DN}{b:Addr}{k:Int×Int}{e:Int×DM}(eG:Same G H)(I:Inv X pins σ H s)(h:SqT X.K G b [.int k.1,.int k.2])(he:e.2=.ref b):ff X.K G e=k:=by
 have ex:∃k:Int×Int,∃b,e.2=.ref b/\SqT X.K G b [.int k.1,.int k.2]:=⟨k,b,he,h⟩
 unfold ff;rw[dif_pos ex];obtain⟨b',e1,e2⟩:=ex.choose_spec;rw[he]at e1;cases e1;exact kA I (Fm eG e2)<|Fm eG h
def CA:DM->V
 | .ref b=>.ref b
 |_=>.non
def uZ(prog:E4)(w:E8)(K:DJ):List V->Hp->VK->Prop:=fun xs H Q=>∃(G:Hp)(p:Addr)(o:Obj)(ks:List (Int×Int)),xs=[.ref p]/\Same G H/\H p=some (XO p o)/\SetH prog w K G o ks/\ks.length<=1000/\∀(q:Addr)(us:List V)(ks':List (Int×Int)),H q=none->ks'.Perm ks->ks'.Pairwise (fun a b=>mK a b=true)->us.length=ks'.length->(∀(i:Nat)(v:V)(k:Int×Int),us[i]? =some v->ks'[i]? =some k->∃b,v=.ref b/\SqT K G b [.int k.1,.int k.2])->Q (.ref q) (cn H q<|.lst us)
theorem mq(hc:X.calm=true):dE X (.builtin "sorted") (uZ X.prog X.w X.K):=by
 intro pins s σ H xs us Q I r h;obtain⟨G,p,o,ks,rfl,eG,hp,⟨es,ep,t,R,T,nd⟩,h64,q⟩:=h;obtain⟨u,rfl,rx⟩:=fh r;cases rx;have hpo:s.heap.get? p=some o:=(I.hok p _ hp).1;have hsz:es.size=ks.length:=by have:=T.len;simpa using this
 have op:=ig X.w p ep es;have osz:(d6 X.w p ep es).size=es.size:=by have:=op.length_eq;simpa using this
 have ek:es.toList.map (ff X.K G)=ks:=by
  apply FJ;intro i;rw[DU];by_cases z:i<es.toList.length
  ·obtain⟨k,b,q1,q2,q3,q4⟩:=T.at_ i es.toList[i] (DO z);rw[DO z,q1];exact congrArg some<|qI eG I q3 q2
  ·rw[F0 (by omega),F0 (by have:=T.len;omega)];rfl
 have mem:∀e∈(d6 X.w p ep es).toList,∃b,e.2=.ref b/\SqT X.K G b [.int (ff X.K G e).1,.int (ff X.K G e).2]:=fun e he=>by
  obtain⟨j,hj,ej⟩:=Ge.mp<|op.mem_iff.mp he;obtain⟨k0,b0,r1,r2,r3,r4⟩:=T.at_ j e (by rw[DO hj,ej]);exact⟨b0,r2,by rw[qI eG I r3 r2];exact r3⟩
 have kzp:((d6 X.w p ep es).toList.map (ff X.K G)).Perm ks:=by
  have:=op.map<|ff X.K G;rw[ek]at this;exact this
 refine Calls.call_function_entry kind_sorted plain_sorted entry_sorted (args_sorted1 _) ?_;unfold Fw.«sorted»;refine DF (m:=checkCount "sorted" 1 1 _)<|DL ?_;refine DF (PySem.W.kdu_collect (A:=X.A.in1) (xh (a:=p) R) (I.ok.hd hc) hpo (by rw[F3];omega) fun h' tk acc hk hacc=>?_);have av:acc.toList=(d6 X.w p ep es).toList.map (·.2):=by
  apply FJ;intro i;rw[DU];by_cases z:i<acc.size
  ·have z2:i< acc.toList.length:=by simpa using z
   obtain⟨e,q1,q2⟩:=hacc.2 i acc.toList[i] (by rw[<-DX];exact DO z2);rw[DO z2,DX,q1,q2];rfl
  ·have:=hacc.1;rw[F0 (by simp;omega),F0 (by simp;omega)];rfl
 have hal:acc.toList.length=ks.length:=by rw[Eu,hacc.1,hsz]
 have I':=I.kept (t':=tk) hk;refine DF (MP ?_ (by rw[hal,F3];omega));have hoL:(h'.push<|seqObj "list" acc.toList.toArray 0).get? h'.objs.size=some (seqObj "list" acc.toList.toArray 0):=DS _ rfl;have src:∀v∈acc.toList,∃b,v=.ref b/\SqT X.K G b [.int (ff X.K G (0,v)).1,.int (ff X.K G (0,v)).2]:=fun v hv=>by
  rw[av]at hv;obtain⟨e,he,rfl⟩:=Ex.mp hv;obtain⟨b,h2,h3⟩:=mem e he;exact⟨b,h2,by rw[show ff X.K G (0,e.2)=ff X.K G e from rfl];exact h3⟩
 have km:acc.toList.map (fun v=>ff X.K G (0,v))=(d6 X.w p ep es).toList.map (ff X.K G):=by rw[av,FX];rfl
 refine DF (Fz (EH slot_list_sort ⟨_,hoL,rfl⟩ entry_list_sort (uY (key:=fun v=>ff X.K G (0,v)) hoL (fun v hv=>?_) (by rw[km];exact kzp.nodup_iff.mpr nd) (by rw[hal,F3];omega) fun out op' pw=>⟨_,rfl,?_⟩)<|args_list_sort _))
 ·obtain⟨b,rfl,h3⟩:=src v hv;obtain⟨its,rr,⟨ob,g1,g2,n,g3⟩,_⟩:=I'.tuple<|Fm eG h3;obtain⟨u1,u2,e1,⟨t1,e2⟩,t2,e3⟩:∃u1 u2,its=[u1,u2]/\RelV (.int (ff X.K G (0,.ref b)).1) u1/\RelV (.int (ff X.K G (0,.ref b)).2) u2:=by
   cases rr with
   |cons a b=>cases b with
    |cons c d=>cases d with
     |nil=>exact⟨_,_,rfl,a,c⟩
  subst e1;rw[e2,e3]at g3;exact⟨b,ob,t1,t2,n,rfl,DH _ g1,g2,g3⟩
 obtain⟨e,he⟩:=sortedHeap_at (h:=h'.push<|seqObj "list" acc.toList.toArray 0) (a:=h'.objs.size) (vs:=acc.toList) (out:=out.toArray) (n:=0) hoL;have at_:∀v∈out,∃b,v=.ref b/\SqT X.K G b [.int (ff X.K G (0,v)).1,.int (ff X.K G (0,v)).2]:=fun v hv=>src v<|op'.mem_iff.mp hv;have pkz:(out.map fun v=>ff X.K G (0,v)).Perm ks:=by
  have:=op'.map fun v=>ff X.K G (0,v);rw[km]at this;exact this.trans kzp
 have ol:out.length=ks.length:=by rw[op'.length_eq];exact hal
 refine DL ⟨_,rfl,.ref h'.objs.size,_,I'.laid (t':=tk) (fun b o z=>?_) (DQ _) (show ObjOk X.prog X.w _ _ _ (.lst<|out.map CA)from⟨by rw[El,F3];omega,out,e,?_,he⟩),rfl,q _ _ (out.map fun v=>ff X.K G (0,v)) (I'.hok.fresh<|DQ _) pkz pw (by rw[El,El]) fun i v k h1 h2=>?_⟩
 ·show(sortedHeap _ _ _ _).get? b=some o;rw[sortedHeap_old (Ed<|DW z) (by rw[size_push'];exact Jq<|DW z)];exact DH _ z
 ·refine n6 _ _ (by rw[El]) fun j x u hx hu=>?_;rw[DU,hu]at hx;cases hx;obtain⟨b,rfl,_⟩:=at_ u<|Ek hu;rfl
 ·rw[DU]at h1 h2;obtain⟨u,hu,rfl⟩:=EO.mp h1;rw[hu]at h2;cases h2;obtain⟨b,rfl,h4⟩:=at_ u<|Ek hu;exact⟨b,rfl,h4⟩
end
def p5(w:E8):Obj:={cls:=.type "set",dict:=none,data:=.set #[] 0<|.fresh 0 0<|!w.params.followText "set-order",slots:= #[]}
theorem xl(prog:E4)(w:E8)(K:DJ)(H:Hp):SetH prog w K H (p5 w) []:=
 ⟨#[],0,.fresh 0 0<|!w.params.followText "set-order",⟨⟨rfl,rfl,rfl⟩,rfl,⟨⟨rfl,rfl,fun a b _ hb=>by simp[Md]at hb,fun j⟨a,ha,_⟩=>by simp[Md]at ha,.inl rfl,fun i h e=>by simp at e⟩,by show 0*5<7*3;decide⟩,rfl,rfl⟩,⟨rfl,fun i e he=>by simp at he⟩,Hn⟩
def p7(w:E8)(cap:List (Option Nat))(wi:TI)(g:TG)(tf:TT)(tb:TB):TE:=fun σ H Q=>wi σ H fun J H1=>∀D,H1 D=none->rQ g tf tb D (bh cap σ) (cn H1 D<|XO D<|p5 w) (fun H'=>Q (.ref D) H') J
section
variable{X:Cx}{scope:Hi}{N:List Str}{cap:List (Option Nat)}{tg iter:Expr}{ifs:List Expr}{pos:Pos}{wi:TI}{g:TG}{tf:TT}{tb:TB}{body:Env->DM->Sem Unit}
theorem va(S:CompScope X scope N cap)(hc:X.calm=true){elt:Expr}{gs:List JC}(hi:PI X tg iter wi)
  (hg:∀s H C fp,PG (aH X scope N s H C fp) tg g) (hf:∀s H C fp,sW (aH X scope N s H C fp) ifs tf) (hb:∀s H C fp,PB (aH X scope N s H C fp) (body (aH X scope N s H C fp).env) tb)
  (ht:∀env it acc,compTurn (.SetComp elt (⟨tg,iter,ifs,0⟩::gs) scope pos) 0 it acc env=dA tg iter ifs (body env acc) it env (.compLoop (.SetComp elt (⟨tg,iter,ifs,0⟩::gs) scope pos) 0 it acc env):=by intro _ _ _;rfl)
  (hs:∀x,foldedSetIterable iter X.env x=pure x:=by intro _;rfl):PE X (.SetComp elt (⟨tg,iter,ifs,0⟩::gs) scope pos) (p7 X.w cap wi g tf tb):=by
 intro pins s σ H Q I h;rw[arm_eval_SetComp];have frc:∀x∈scope.names,x.2=.free->∃c,X.env.cells.lookup x.1=some c:=fun x hx hk=>I.ok.has x.1<|S.free x hx hk;refine GF (use:=none) rfl hs (dn frc) S.kind (fC S)<|bG (hi pins s σ H _ I h) fun v s1 h1=>bG h1 fun itv s2 h2=>?_;obtain⟨it,fp,tn,J,H2,rfl,I2,T,st2,f2,w⟩:=h2;unfold newSet setsByText;refine DF<|DF<|GU<|DL ?_;refine F4 ?_;have hz:H2 s2.heap.objs.size=none:=I2.hok.fresh<|DQ _;have I3:Inv X pins σ (cn H2 s2.heap.objs.size<|XO s2.heap.objs.size<|p5 X.w) {s2 with heap:=s2.heap.push (p5 X.w)}:=
  I2.laid (a:=s2.heap.objs.size) (t':=s2.toks) (fun _ _ q=>DH _ q) (DQ _) (Nm<|DS _ rfl)
 have nD:∀b∈fp,b≠s2.heap.objs.size:=fun b hb=>by
  obtain⟨o,e,_⟩:=T.obj _ _ st2 b hb;exact Ed<|DW e
 have f3:∀b∈fp,FpOk X pins (cn H2 s2.heap.objs.size<|XO s2.heap.objs.size<|p5 X.w) b:=fun b hb=>⟨by rw[aD<|nD b hb];exact(f2 b hb).1,(f2 b hb).2⟩
 refine jV (RR:=fun C=>compPost (model X.prog X.w) X.A X.xe none (EP X pins σ Q) (.ref s2.heap.objs.size) C) S hc NR rfl hg hf hb ht I3 T (T.keep _ _ _ st2 fun b hb o e=>DH _ e) f3 (w _ hz) fun C σ' H' s' hC I' q=>?_;obtain⟨m,hn,_⟩:=I'.loc;exact⟨m,hn,fun h' hs'=>⟨.ref _,H',lb I3 f3 hC I' hs',rfl,q⟩⟩
variable{kx vx elt tg2 iter2:Expr}{ifs2:List Expr}{wi2:TI}{g2:TG}{tf2:TT}{te:TE}
theorem sk(hu:X.A.units+1<cLine)(S:CompScope X scope N cap)(hc:X.calm=true)(hi:PI X tg iter wi)
  (hg:∀s H C fp,PG (aH X scope N s H C fp) tg g) (hf:∀s H C fp,sW (aH X scope N s H C fp) ifs tf)
  (hi2:∀s H C fp,PI (aH X scope N s H C fp) tg2 iter2 wi2) (hg2:∀s H C fp,PG (aH X scope N s H C fp) tg2 g2) (hf2:∀s H C fp,sW (aH X scope N s H C fp) ifs2 tf2) (he:∀s H C fp,PE (aH X scope N s H C fp) elt te)
  (hs:∀x,foldedSetIterable iter X.env x=pure x:=by intro _;rfl) (hs2:∀env x,foldedSetIterable iter2 env x=pure x:=by intro _ _;rfl):PE X (.SetComp elt [⟨tg,iter,ifs,0⟩,⟨tg2,iter2,ifs2,0⟩] scope pos) (p7 X.w cap wi g tf<|zz wi2 g2 tf2<|p4 X.prog X.w X.K te):=
 va S hc hi hg hf (body:=wY iter2 (.SetComp elt [⟨tg,iter,ifs,0⟩,⟨tg2,iter2,ifs2,0⟩] scope pos) 1)
  (fun s H C fp=>zA (Y:=aH X scope N s H C fp) hc rfl (hi2 s H C fp) (hg2 s H C fp) (hf2 s H C fp) (body:=yB elt) (zJ (Y:=aH X scope N s H C fp) rfl hu<|he s H C fp) NR rfl (fun _ _ _=>rfl)<|hs2 _) (fun _ _ _=>by rw[rR];rfl) hs
end
end L2
namespace Wb
open PySem L2 Mi
section
variable{Er:Nat->Prop}{α:Type}{prog:E4}{w:E8}{K:DJ}{W W' W0 Wb W1 W2:Wd}{σ:St}{te:TE}
structure OwS2(prog:E4)(w:E8)(K:DJ)(W:Wd)(p:Addr)(ks:List (Int×Int)):Prop where
 g:W.G p=none
 h:∃o ks0,W.H p=some (XO p o)/\SetH prog w K W.G o ks0/\ks0.Perm ks
theorem sm{G G':Hp}{o:Obj}{ks:List (Int×Int)}(h:SetH prog w K G o ks)(e:Same G G'):SetH prog w K G' o ks:=
 let ⟨es,ep,t,R,T,nd⟩:=h
 ⟨es,ep,t,R,⟨T.len,fun i x hx=>let ⟨k,b,q1,q2,q3,q4⟩:=T.at_ i x hx;⟨k,b,q1,q2,Fm e q3,q4⟩⟩,nd⟩
theorem OwS2.mono{p:Addr}{ks:List (Int×Int)}(o:OwS2 prog w K W p ks)(e:Ext W W'):OwS2 prog w K W' p ks:=by
 obtain⟨x,k0,a,b,c⟩:=o.h;exact⟨by rw[e.k p (by rw[a];exact fun z=>nomatch z)];exact o.g,x,k0,e.h _ _ a,sm b e.g,c⟩
theorem zK{me:Res (Int×Int)}{D:Addr}(eb:Ext Wb W)(hD:Wb.H D=none)(h:EV Er te σ W (sh<|isT2 K isI isI) me):BV Er (p4 prog w K te) σ Wb W (OwS2 prog w K) D (fun ks=>me.bind fun y=>rS ks y):=fun W1 ks N e1 o k=>
 h W1 e1 _ ((DE k).imp fun y ky v W2 e2 hv=>by
  obtain⟨h3,h4⟩:=aZ ky;have o2:=o.mono e2;obtain⟨ob,ks0,q1,q2,q3⟩:=o2.h;obtain⟨p,x1,x2,rfl,t1,r1,r2⟩:=hv;cases r1;cases r2;refine⟨W2.G,ob,ks0,p,y,W2.ok,q1,q2,by rw[q3.length_eq];exact h3,rfl,t1,fun hm=>?_,fun hm o' ks' s' p'=>?_⟩
  ·rw[if_pos<|q3.mem_iff.mp hm]at h4;exact h4 W2 e2.g ((eb.trans e1).trans e2) o2
  ·rw[if_neg (fun z=>hm (q3.mem_iff.mpr z))]at h4;exact h4 (W2.mut D (XO D o') o2.g) e2.g (((eb.trans e1).trans e2).mut hD o2.g) ⟨o2.g,o',ks',aI,s',p'.trans (.cons _ q3)⟩)
theorem vb{R:Rp α}{cap:List (Option Nat)}{wi:TI}{g:TG}{tf:TT}{t:TB}{mi:Res (List α)}{f:α->List (Int×Int)->Res (List<|Int×Int)}(hi:IV Er wi σ W R mi)
  (hs:∀Wb D W2 a v s(M:Hp->Prop),Same W.G W2.G->Ext W Wb->Wb.H D=none->Ext Wb W2->OwS2 prog w K W2 D s->R W2.G a v->(f a s).OkE Er (fun s'=>∀W',Same W2.G W'.G->Ext Wb W'->OwS2 prog w K W' D s'->M W'.H)->g v (bh cap σ) W2.H fun σ2 H2=>Keep (bh cap σ) σ2/\tf σ2 H2 fun b H3=>if b=true then t D σ2 H3 M else M H3):
  EVo Er (mS (uZ prog w K)<|aL (p7 w cap wi g tf t) bV) σ W (isT2 K isI isI) ((mi.bind fun xs=>bB f xs []).bind fun ks=>uC ks):=fun W1 e1 Q k=>by
 refine hi W1 e1 _<|(DE<|DE k).imp fun xs kx J W2 e2 hy D hD=>?_;refine lY (W:=W2) (W1:=W2.mut D (XO D<|p5 w)<|W2.gnone hD) (Wb:=W2) (O:=OwS2 prog w K) (s0:=[]) hy (.inr<|.refl _) (.own _ hD) ⟨W2.gnone hD,p5 w,[],aI,xl ..,.refl _⟩ (fun W3 a v s M e3 eb3 o3 r k3=>hs W2 D W3 a v s M ((e1.trans e2).g.trans e3) (e1.trans e2) hD eb3 o3 r k3) (fun _ _ _ e o=>o.mono e) ?_;exact kx.imp fun ks kk W' z1 z2 z3=>by
  obtain⟨h3,h4⟩:=aZ kk;obtain⟨o,ks0,q1,q2,q3⟩:=z3.h;refine⟨W'.G,D,o,ks0,rfl,W'.ok,q1,q2,by rw[q3.length_eq];exact h3,fun q us ks1 hq p1 p2 l1 at_=>?_⟩;have e:ks1=eV ks:=jX (p1.trans q3) (p2.imp fun{a b}h=>by rw[jn]at h;rw[jk];omega);rw[<-e]at h4;exact oS (W2:=W') (vs:=us) ⟨l1,fun i v m e1 e2=>by
   obtain⟨b,rfl,hb⟩:=at_ i v m e1 e2;exact⟨b,_,_,rfl,hb,rfl,rfl⟩⟩ (e2.trans z2) h4 q hq
end
end Wb
namespace L2
open PySem PySem.Spec PyProof.Rows Wb
def B7:R2:=fun x y H Q=>∃p q xs,x=.ref p/\y=.ref q/\H p=some (.lst xs)/\H q=some (.lst [])/\Q (.bl xs.isEmpty) H
theorem kB{X:Cx}(hu:X.A.units<cLine):gX X (compareOp .Eq) B7:=by
 intro pins s σ H x y v u Q I rx ry h;obtain⟨p,q,xs,rfl,rfl,h1,h2,hq⟩:=h;cases rx;cases ry;obtain⟨i1,r1,t1,z1⟩:=I.list<|Gk (K:=X.K) h1;obtain⟨i2,r2,t2,z2⟩:=I.list<|Gk (K:=X.K) h2;have l1:=r1.length;have l2:=r2.length;have key:SeqAt.RcAt X.A s (.ref p) (.ref q) xs.isEmpty:=by
  cases xs with
  |nil=>
   have:=NP (A:=X.A) (s:=s) (e:=fun _=>true) t1.isList t2.isList (by rw[DY,DY,<-l1,<-l2]) hu (fun j h1' h2'=>by
    have:j<i1.length:=by simpa using h1'
    rw[<-l1]at this;exact absurd this (LY _))
   have e0:i1.toArray.size=0:=by rw[DY,<-l1];rfl
   rw[e0]at this;exact this
  |cons a r=>exact MR t1.isList t2.isList (by simp at l1 l2 ⊢;omega) hu
 exact key _ _ _ _ ⟨.bl _,H,I,rfl,hq⟩
end L2
namespace Wb
open PySem L2 Mi
section
variable{Er:Nat->Prop}{α:Type}{W:Wd}{σ:St}{ta:TE}
theorem kC{R:Rp α}{ma:Res (List α)}(ha:EV Er ta σ W (pk R) ma):EV Er (gV B7 ta<|tG bV) σ W (sh isB) (ma.bind fun a=>.ok a.isEmpty):=fun W1 e1 Q k=>
 ha W1 e1 _ ((DE k).imp fun a ka x W2 e2 hx=>by
  obtain⟨p,vs,rfl,h1,h2⟩:=hx;refine⟨by decide,fun q hq=>⟨p,q,vs,rfl,rfl,?_,aI,?_⟩⟩;·rw[aD (fun z=>by rw[z]at h1;rw[hq]at h1;cases h1)];exact h1
  ·have:vs.isEmpty=a.isEmpty:=by
    have:=h2.1;cases vs<;>cases a<;>simp at this ⊢
   rw[this];exact ka (.bl a.isEmpty) (W2.mut q (.lst []) (W2.gnone hq)) (e2.trans (.own _ hq)) rfl)
end
end Wb
namespace Mi
def fv{α:Type}(kvs:List ((Int×Int)×α))(k:Int×Int)(a:α):Res (List<|(Int×Int)×α):=eJ (kvs.length<1000)<|gS kvs k a
end Mi
namespace Wb
open PySem PySem.W PySem.Calls PyProof.Rows
def nO(d:Addr)(n ep i:Nat):Obj:={cls:=.type "dict_keyiterator",dict:=none,data:=.fields #[.ref d,.int i 0,.int n 0,.int ep 0],slots:= #[]}
section
variable{prog:E4}{w:E8}{A:EB}{E:DM->DN->Prop}{s:DN}{d it:Addr}{o:Obj}{es:Array GC}{ep:Nat}
theorem sr{Q:DM->DN->Prop}(hd:(d==sysModules)=false)(ho:s.heap.get? d=some o)(hx:o.ExactDict)(hdat:o.data=.dict es ep)(hQ:Q (.ref s.heap.objs.size) {s with heap:=s.heap.push (nO d es.size ep 0)}):wpAny (model prog w) A (pyIter<|.ref d) Q E s:=by
 have hT:s.TypeIs (.ref d) "dict":=⟨o,ho,hx.1⟩
 refine Ie hT LI<|EH LI hT F.entry_dict_iter ?_<|F.args_dict_iter_1 _;unfold Fw.«dict.__iter__»;refine DF ?_;unfold Ms;refine DF<|wpAny_notOrdered_dict hT ?_;show wpAny _ _ (pure<|F1 d) _ _ s;refine DL ?_;show wpAny _ _ (Kh d>>=_) _ _ s;unfold Kh;rw[if_neg (by rw[hd];exact E3)];refine DF<|DL ?_;refine DF<|Ju ho hdat ?_;refine DF<|K9 ho hdat ?_;refine DF<|F4<|DL ⟨_,rfl,"dict_keyiterator",_,⟨_,DS _ rfl,rfl⟩,Fq.lookup,?_⟩;exact hQ
theorem su{i:Nat}{Q:Option DM->DN->Prop}(hit:s.heap.get? it=some (nO d es.size ep i))(ho:s.heap.get? d=some o)(hdat:o.data=.dict es ep)(hi:i<es.size)
  (hQ:∀h',h'.get? it=some (nO d es.size ep<|i+1)->E6 it s.heap h'->Q (some es[i].key) {s with heap:=h'}):wpAny (model prog w) A (pyNext<|.ref it) Q E s:=by
 have hT:s.TypeIs (.ref it) "dict_keyiterator":=⟨_,hit,rfl⟩
 unfold pyNext;refine DF (Gr (ET (name:=DP "__next__") hT Fq
  (EH Fq hT IE ?_ (Ip _))))
 refine DF<|DL ?_;refine DF ?_;refine DF ?_
 first|refine DF (Gf hT<|DL ?_)|refine DF<|GG hT<|DL ?_
 refine DF<|Jd hit rfl ?_;have hown:IQ "dict_keyiterator"=false:=by decide
 simp only[hown,ED,if_false];show wpAny _ _ (if(F1 d==Fc)=true then _ else _) _ _ s;rw[if_neg (show ¬((F1 d==Fc)=true)from E3)];refine DF<|DL ?_;refine DF<|Ju ho hdat ?_;rw[if_neg (by simp)];refine DF<|DL ?_;refine DF<|K9 ho hdat ?_;rw[if_neg (by simp)];refine DL ?_;simp only[show ¬((i:Int)<0)from by omega,if_false,Fj,E7 hi];refine DF ?_
 first|refine DF (Gf hT<|DL ?_)|refine DF<|GG hT<|DL ?_
 refine DF<|Ki hT ?_;show wpAny _ _ (setField (.ref it) 1 (rawInt<|(i:Int)+1)>>=_) _ _ s;refine DF (GP hit rfl (by simp) ?_);have hit':=FN (JE (·.setIfInBounds 1 (rawInt<|(i:Int)+1))) hit rfl;refine DF<|Fz ?_;refine DF (Ki (s:={s with heap:=s.heap.update it (JE (·.setIfInBounds 1 (rawInt<|(i:Int)+1)))}) ⟨_,hit',rfl⟩ ?_);show wpAny _ _ (pure es[i].key) _ _ _;exact DL<|DL ⟨_,rfl,DL<|hQ _ (hit'.trans rfl)<|F8 ..⟩
theorem vc{Q:Option DM->DN->Prop}(hh:A.handled=none)(hit:s.heap.get? it=some (nO d es.size ep es.size))(ho:s.heap.get? d=some o)(hdat:o.data=.dict es ep)
  (hQ:∀h',Hx it s.heap h'->Q none {s with heap:=h'}):wpAny (model prog w) A (pyNext<|.ref it) Q E s:=by
 have hT:s.TypeIs (.ref it) "dict_keyiterator":=⟨_,hit,rfl⟩
 unfold pyNext;refine DF (Gr (ET (name:=DP "__next__") hT Fq
  (EH Fq hT IE ?_ (Ip _))))
 refine DF<|DL ?_;refine DF ?_;refine DF ?_
 first|refine DF (Gf hT<|DL ?_)|refine DF<|GG hT<|DL ?_
 refine DF<|Jd hit rfl ?_;have hown:IQ "dict_keyiterator"=false:=by decide
 simp only[hown,ED,if_false];show wpAny _ _ (if(F1 d==Fc)=true then _ else _) _ _ s;rw[if_neg (show ¬((F1 d==Fc)=true)from E3)];refine DF<|DL ?_;refine DF<|Ju ho hdat ?_;rw[if_neg (by simp)];refine DF<|DL ?_;refine DF<|K9 ho hdat ?_;rw[if_neg (by simp)];refine DL ?_;simp only[show ¬((es.size:Int)<0)from by omega,if_false,Fj,Hg<|DQ es.size];refine DF ?_
 first|refine DF (Gf hT<|DL ?_)|refine DF<|GG hT<|DL ?_
 show wpAny _ _ (setField (.ref it) 0 .none>>=_) _ _ s;refine DF (GP hit rfl (by simp) ?_);show wpAny _ _ (newExc (.type "StopIteration") []>>=_) _ _ _;refine DF ?_;simp only[newExc,newTuple];refine DF (F4 ?_ (by size_fits));refine DF (m:=firstArgMember _ _) (Kv (a:=Fc) (by first|rfl|(simp only[firstArgMember];rfl)) ?_);refine F4 ?_ (by size_fits);simp only[raiseNew];refine DF<|KL ?_;rw[show A.in1.handled=none from hh];refine DF<|DL<|LK ?_;refine DF<|G7 (T:="StopIteration") (b:=true) ⟨_,DS _ rfl,rfl⟩ GR ?_;exact DL<|hQ _<|((F8 ..).extBut.push _).push _
end
end Wb
namespace L2
open PySem PySem.Spec PyProof.Rows Wb
def KP(K:DJ)(G:Hp):List ((Int×Int)×V)->List (List Key×Addr×DM)->Prop:=Paired<|fun(p:(Int×Int)×V)(q:List Key×Addr×DM)=>iC p.1=q.1/\SqT K G q.2.1 [.int p.1.1,.int p.1.2]/\RelV p.2 q.2.2
section
variable{K:DJ}{G G':Hp}{kvs:List ((Int×Int)×V)}{xs:List (List Key×Addr×DM)}
theorem KP.val(r:KP K G kvs xs)(k:Int×Int):RelO (f9 kvs k) ((atKey xs<|iC k).map (·.2)):=by
 unfold KP at r
 induction r with
 |nil=>exact Hd
 | @cons p q ps qs h t ih=>
  obtain⟨h1,_,h2⟩:=h;by_cases e:p.1=k
  ·have e':q.1=iC k:=by rw[<-h1,e]
   have b:atKey (q::qs) (iC k)=some q.2:=by simp[atKey,FP,e']
   rw[fS e,b];exact h2
  ·have e':¬q.1=iC k:=fun z=>e<|jo<|h1.trans z;have b:atKey (q::qs) (iC k)=atKey qs (iC k):=by simp[atKey,FP,e']
   rw[fT e,b];exact ih
theorem KP.repl(r:KP K G kvs xs)(k:Int×Int){y:V}{u:DM}(ry:RelV y u):KP K G (kvs.map fun kv=>if kv.1=k then(kv.1,y)else kv) (xs.map<|Nk (iC k) u):=by
 unfold KP at r ⊢
 induction r with
 |nil=>exact .nil
 | @cons p q ps qs h t ih=>
  rw[EY,EY];refine .cons ?_ ih;obtain⟨h1,h2,h3⟩:=h;unfold Nk;by_cases e:p.1=k;·rw[if_pos e,if_pos (by rw[<-h1,e])];exact⟨h1,h2,ry⟩
  ·rw[if_neg e,if_neg<|fun z=>e<|jo<|h1.trans z];exact⟨h1,h2,h3⟩
theorem KP.put(r:KP K G kvs xs)(k:Int×Int){b:Addr}{y:V}{u:DM}(hb:SqT K G b [.int k.1,.int k.2])(ry:RelV y u):KP K G (oF kvs k y) (storedH xs (iC k) b u):=by
 have e:(kvs.any fun kv=>decide<|kv.1=k)=(atKey xs<|iC k).isSome:=by rw[mU,(r.val k).isSome_eq,Lr]
 unfold oF storedH;rw[e];by_cases q:(atKey xs<|iC k).isSome=true;·rw[if_pos q,if_pos q];exact r.repl k ry
 ·rw[if_neg q,if_neg q];exact Paired.snoc r ⟨rfl,hb,ry⟩
theorem KP.same(r:KP K G kvs xs)(e:Same G G'):KP K G' kvs xs:=Paired.mapP r fun _ _ z=>⟨z.1,Fm e z.2.1,z.2.2⟩
end
def DictP(prog:E4)(w:E8)(K:DJ)(G:Hp)(o:Obj)(kvs:List ((Int×Int)×V)):Prop:=∃es ep xs,o.ExactDict/\o.data=.dict es ep/\es.toList=xs.map (entryOfKey<|tupleKind<|mixKind prog w)/\(xs.map (·.1)).Nodup/\KP K G kvs xs
def PDa(prog:E4)(w:E8)(K:DJ)(G H:Hp)(a:Addr)(kvs:List ((Int×Int)×V)):Prop:=∃o,Same G H/\H a=some (XO a o)/\(a==sysModules)=false/\DictP prog w K G o kvs/\kvs.length<=1000
def gi:Obj:={cls:=.type "dict",dict:=none,data:=.dict #[],slots:= #[]}
def vd:TE:=fun _ H Q=>∀p,H p=none->(p==sysModules)=false->Q (.ref p) (cn H p<|XO p gi)
def ve(prog:E4)(w:E8)(K:DJ)(td ty tv:TE):TS:=fun D σ H=>tv σ H fun v H1=>td σ H1 fun x H2=>ty σ H2 fun y H3=>∃G a kvs b k,x=.ref a/\PDa prog w K G H3 a kvs/\kvs.length<1000/\y=.ref b/\SqT K G b [.int k.1,.int k.2]/\∀o',DictP prog w K G o' (oF kvs k v)->D.nx σ (cn H3 a<|XO a o')
section
variable{X:Cx}{K:DJ}{pos pos':Pos}{o i value:Expr}{td ty tv:TE}{pins:List (Addr×Obj)}{σ:St}{H:Hp}{s:DN}
theorem nP(prog:E4)(w:E8)(K:DJ)(G:Hp):DictP prog w K G gi []:=⟨#[],0,[],⟨rfl,rfl,rfl⟩,rfl,rfl,HC,.nil⟩
theorem vf:PE X (.Dict [] [] pos) vd:=fun pins s σ H Q I h=>
 wpAny_Dict_empty ⟨.ref s.heap.objs.size,_,I.laid (a:=s.heap.objs.size) (t':=s.toks) (fun _ _ q=>DH _ q) (DQ _)<|Nm (o:=gi)<|DS _ rfl,rfl,h _ (I.hok.fresh<|DQ _)<|beq_eq_false_iff_ne.mpr<|HN<|Ed I.big⟩
theorem PDa.h{G:Hp}{a:Addr}{kvs:List ((Int×Int)×V)}(I:Inv X pins σ H s)(g:PDa X.prog X.w X.K G H a kvs):∃xs,KP X.K G kvs xs/\s.heap.DictOfH (tupleKind<|mixKind X.prog X.w) a xs/\xs.length<=1000:=by
 obtain⟨o,eG,ha,lo,⟨es,ep,xs,ex,dat,he,nd,r⟩,hl⟩:=g;have hl2:kvs.length=xs.length:=Paired.length r;refine⟨xs,r,⟨o,es,ep,(I.hok a _ ha).1,ex,dat,he,fun x hx=>?_,nd⟩,by omega⟩;obtain⟨j,hj⟩:=Gw.mp hx;obtain⟨p,hp,h1,h2,h3⟩:=iM r hj;rw[<-h1];exact dM I<|Fm eG h2
theorem vg(hu:X.A.units+1<cLine)(ho:PE X o td)(hi:PE X i ty)(hv:PE X value tv)(hs:swapsWith value (some<|.Subscript o i pos') pos.line X.env=pure false):
  PS X (.Assign [.Subscript o i pos'] value pos) (ve X.prog X.w X.K td ty tv):=by
 intro pins s σ H D I h;refine wpAny_Assign_Subscript (bG (hv pins s σ H _ I h) fun r s1⟨v,H1,I1,rv,q1⟩=>bG (ho pins s1 σ H1 _ I1 q1) fun u s2⟨x,H2,I2,rx,q2⟩=>bG (hi pins s2 σ H2 _ I2 q2) fun iv s3⟨y,H3,I3,ry,G,a,kvs,b,k,ex,g,hl,ey,hb,q3⟩=>?_) hs;subst ex ey;obtain rfl:u=F1 a:=rx;obtain rfl:iv=F1 b:=ry;obtain⟨xs,rel,dd,hx⟩:=g.h I3;obtain⟨ob,eG,ha,lo,_,_⟩:=g;refine wpAny_setItem_heap (hsz:=by rw[F3];omega) (HV hu) (dM I3<|Fm eG hb) dd fun h' dd' hs=>?_;obtain⟨o',es,ep,hq,h2,h3,h4,_,h5⟩:=dd';exact⟨σ,_,pT I3 (by rw[ha];exact Hd) hs ⟨o',hq⟩<|Nm hq,q3 o' ⟨es,ep,_,h2,h3,h4,h5,rel.put k hb rv⟩⟩
end
end L2
namespace Wb
open PySem L2 Mi
section
variable{Er:Nat->Prop}{α:Type}{prog:E4}{w:E8}{K:DJ}{W W' W0 W1 W2:Wd}{σ:St}{te ti ta:TE}{R:Rp α}{i:Nat}{p:Addr}{D:Ends}{r:TS}
structure OwP(prog:E4)(w:E8)(K:DJ)(R:Rp α)(W:Wd)(p:Addr)(kvs:List ((Int×Int)×α)):Prop where
 g:W.G p=none
 h:∃o vs,W.H p=some (XO p o)/\(p==sysModules)=false/\DictP prog w K W.G o vs/\vs.length<=1000/\vs.length=kvs.length/\∀(i:Nat)(q:(Int×Int)×V)(x:(Int×Int)×α),vs[i]? =some q->kvs[i]? =some x->q.1=x.1/\R W.G x.2 q.2
theorem dictP_same{G G':Hp}{o:Obj}{kvs:List ((Int×Int)×V)}(h:DictP prog w K G o kvs)(e:Same G G'):DictP prog w K G' o kvs:=
 let ⟨es,ep,xs,a,b,c,d,r⟩:=h
 ⟨es,ep,xs,a,b,c,d,r.same e⟩
theorem OwP.mono[Mono R]{kvs:List ((Int×Int)×α)}(o:OwP prog w K R W p kvs)(e:Ext W W'):OwP prog w K R W' p kvs:=by
 obtain⟨x,vs,a,lo,b,hl,c,d⟩:=o.h;exact⟨by rw[e.k p (by rw[a];exact fun z=>nomatch z)];exact o.g,x,vs,e.h _ _ a,lo,dictP_same b e.g,hl,c,fun i q y h1 h2=>⟨(d i q y h1 h2).1,DD e.g (d i q y h1 h2).2⟩⟩
theorem nQ{H:Hp}{vs:List ((Int×Int)×V)}{xs:List ((Int×Int)×α)}(hl:vs.length=xs.length)(h:∀(i:Nat)(q:(Int×Int)×V)(x:(Int×Int)×α),vs[i]? =some q->xs[i]? =some x->q.1=x.1/\R H x.2 q.2){k:Int×Int}{a:α}{v:V}(hv:R H a v):
  (oF vs k v).length=(gS xs k a).length/\∀(i:Nat)(q:(Int×Int)×V)(x:(Int×Int)×α),(oF vs k v)[i]? =some q->(gS xs k a)[i]? =some x->q.1=x.1/\R H x.2 q.2:=by
 have key:∀(vs:List ((Int×Int)×V))(xs:List ((Int×Int)×α)),vs.length=xs.length->(∀(i:Nat)(q:(Int×Int)×V)(x:(Int×Int)×α),vs[i]? =some q->xs[i]? =some x->q.1=x.1/\R H x.2 q.2)->(vs.any fun p=>decide<|p.1=k)=(xs.any fun p=>decide<|p.1=k):=by
  intro vs
  induction vs with
  |nil=>intro xs hl _;cases xs with|nil=>rfl|cons _ _=>cases hl
  |cons q vs ih=>
   intro xs hl h;cases xs with
   |nil=>cases hl
   |cons x xs=>rw[HJ,HJ,ih xs (by simpa using hl) fun i q x h1 h2=>h (i+1) q x h1 h2,(h 0 q x rfl rfl).1]
 unfold oF gS;rw[key vs xs hl h];by_cases z:(xs.any fun p=>decide<|p.1=k)=true
 ·rw[if_pos z,if_pos z];refine⟨by rw[El,El];exact hl,fun i q x h1 h2=>?_⟩;rw[DU]at h1 h2;obtain⟨q',h3,rfl⟩:=EO.mp h1;obtain⟨x',h4,rfl⟩:=EO.mp h2;have:=h i q' x' h3 h4;by_cases y:x'.1=k;·rw[if_pos y,if_pos<|this.1.trans y];exact⟨this.1,hv⟩
  ·rw[if_neg y,if_neg<|fun e=>y<|this.1.symm.trans e];exact this
 ·rw[if_neg z,if_neg z];refine⟨by simp[hl],fun i q x h1 h2=>?_⟩;by_cases y:i<vs.length
  ·rw[Ef y]at h1;rw[Ef (by omega)]at h2;exact h i q x h1 h2
  ·rw[Ea (by omega)]at h1;rw[Ea (by omega),<-hl]at h2;cases e:i-vs.length with
   |zero=>rw[e]at h1 h2;cases h1;cases h2;exact⟨rfl,hv⟩
   |succ n=>rw[e]at h1;simp at h1
theorem nR{kvs:List ((Int×Int)×α)}{k:Int×Int}{a:α}:(gS kvs k a).length<=kvs.length+1:=by unfold gS;split<;>simp
def EVp(prog:E4)(w:E8)(K:DJ)(Er:Nat->Prop)(t:TE)(σ:St)(W:Wd)(R:Rp α)(m:Res (List<|(Int×Int)×α)):Prop:=∀W1,Ext W W1->∀Q:VK,m.OkE Er (fun xs=>∀p W2,Ext W1 W2->W1.H p=none->OwP prog w K R W2 p xs->Q (.ref p) W2.H)->t σ W1.H Q
theorem vh:EVp prog w K Er vd σ W R (.ok []):=fun W1 e1 Q k p hp lo=>k p (W1.mut p (XO p gi)<|W1.gnone hp) (.own _ hp) hp ⟨W1.gnone hp,gi,[],aI,lo,nP ..,by decide,rfl,fun i q x h=>by simp at h⟩
theorem xm{σ':Addr->St}{m:Res (List<|(Int×Int)×α)}(h:EVp prog w K Er te σ W R m)(q:m.OkE Er fun a=>∀p W',Ext W W'->W.H p=none->OwP prog w K R W' p a->D.nx (σ' p) W'.H)(hσ:∀p,σ.set i (some<|.ref p)=σ' p:=by intro _;rfl):iG te (d5 i) D σ W.H:=
 h W (.refl _) _ (q.imp fun a k p W' e hp o=>by show D.nx (σ.set i<|some<|.ref p) W'.H;rw[hσ];exact k p W' e hp o)
theorem sv{σ':Addr->St}{m:Res (List<|(Int×Int)×α)}(h:EVp prog w K Er te σ W R m)(q:m.OkE Er fun a=>∀p W',Ext W W'->W.H p=none->OwP prog w K R W' p a->r D (σ' p) W'.H)(hσ:∀p,σ.set i (some<|.ref p)=σ' p:=by intro _;rfl):iF (iG te<|d5 i) r D σ W.H:=xm (D:={D with nx:=r D}) h q hσ
theorem OwP.pd[Mono R]{kvs:List ((Int×Int)×α)}(o:OwP prog w K R W p kvs):∃vs,PDa prog w K W.G W.H p vs/\vs.length=kvs.length/\∀(i:Nat)(q:(Int×Int)×V)(x:(Int×Int)×α),vs[i]? =some q->kvs[i]? =some x->q.1=x.1/\R W.G x.2 q.2:=by
 obtain⟨x,vs,a,lo,b,hl,c,d⟩:=o.h;exact⟨vs,⟨x,W.ok,a,lo,b,hl⟩,c,d⟩
theorem vi[Mono R]{xs:List ((Int×Int)×α)}{m:Res α}{mk:Res (Int×Int)}(o:OwP prog w K R W p xs)(h:EV Er te σ W (sh R) m)(hj:EV Er ti σ W (sh<|isT2 K isI isI) mk)
  (q:(m.bind fun a=>mk.bind fun k=>fv xs k a).OkE Er fun ys=>∀W',Mu W W' p->OwP prog w K R W' p ys->D.nx σ W'.H) (hi:σ[i]? =some (some<|.ref p):=by rfl):ve prog w K (gW i) ti te D σ W.H:=by
 refine h W (.refl _) _<|(DE q).imp fun a ka v W2 e2 hv=>⟨.ref p,hi,hj W2 e2 _<|(DE ka).imp fun k kk x W3 e3 hx=>?_⟩;obtain⟨h3,h4⟩:=aZ kk;have e:=e2.trans e3;have o':=o.mono e;obtain⟨ob,vs,o1,lo,o2,hl,o3,o4⟩:=o'.h;obtain⟨b,x1,x2,rfl,t1,r1,r2⟩:=hx;cases r1;cases r2;obtain⟨p1,p2⟩:=nQ o3 o4 (k:=k)<|DD (R:=R) e3.g hv;refine⟨W3.G,p,vs,b,k,rfl,⟨ob,W3.ok,o1,lo,o2,hl⟩,by omega,rfl,t1,fun o2' d'=>?_⟩;exact h4 (W3.mut p (XO p o2') o'.g) (.of e o'.g) ⟨o'.g,o2',_,aI,lo,d',by have:=nR (kvs:=xs) (k:=k) (a:=a);omega,p1,p2⟩
end
end Wb
namespace Mi
abbrev Cd:=Tx×Tx×Int
abbrev Pl:=Tx×Tx×Tx
abbrev Ii:=Int×Int
def sx{κ α:Type}[DecidableEq κ](kvs:List (κ×α))(k:κ)(z:α):α:=(look kvs k).getD z
def mw(n:Int):Res (List Int):=eJ (-(2^61)<=n/\n<2^61) (fe n).reverse
end Mi
namespace L2
open PySem PySem.Spec PyProof.Rows Wb
def CK(a:Addr)(o:Obj)(es:Array GC):It:=⟨fun i H=>H a=some (XO a o)/\i<es.size,fun i H x H'=>H'=H/\∃e,es[i]? =some e/\RelV x e.key,fun i H=>H a=some (XO a o)/\i=es.size⟩
theorem p8{P:E4}{w:E8}{K:DJ}{tg:Expr}{a it:Addr}{o:Obj}{es:Array GC}{ep:Nat}(hdat:o.data=.dict es ep)(hx:o.ExactDict)(hr:∀(i:Nat)(e:GC),es[i]? =some e->∃b,e.key=.ref b):Turn P w K tg (CK a o es) [it] it (fun i h=>h.get? it=some (nO a es.size ep i)) where
 mem:=by simp
 obj:=fun i h st b hb=>by
  have e:b=it:=by simpa using hb
  subst e;exact⟨_,st,fun v z=>by
   have z':Iw _=Hk v:=z;cases z'⟩
 keep:=fun i h h' st k=>k it (by simp) _ st
 item:=by
  intro X hP hw hK hc i pins s σ H E I hf st hg;subst hP hw hK;obtain⟨ha,hi⟩:=hg;obtain⟨f0,f1,f2,f3,f4,f5⟩:=hf it (by simp);have ho:s.heap.get? a=some o:=(I.hok a _ ha).1;refine su st ho hdat hi fun h' st' sb=>?_;have I1:Inv X pins σ H {s with heap:=h'}:=I.turned (t':=s.toks) (fun b o hb e=>(sb.2 b hb).trans e) f0 f1 f3 f4 f5;obtain⟨b,hb⟩:=hr i _<|E7 hi;exact⟨_,rfl,kS (s:={s with heap:=h'}) (n:="dict_keyiterator") st' rfl rfl (by decide) ⟨.ref b,H,I1,by rw[hb];rfl,⟨rfl,_,E7 hi,by rw[hb];rfl⟩,st',fun b hb=>(hf b hb).1⟩⟩
 done:=by
  intro X hP hw hK hc i pins s σ H E I hf st hg;subst hP hw hK;obtain⟨ha,hi⟩:=hg;subst hi;obtain⟨f0,f1,f2,f3,f4,f5⟩:=hf it (by simp);have ho:s.heap.get? a=some o:=(I.hok a _ ha).1;exact vc (I.ok.hd hc) st ho hdat fun h' eb=>⟨rfl,I.turned (t':=s.toks) (fun b o hb e=>eb b o hb e) f0 f1 f3 f4 f5⟩
 self:=fun A i s Q E st hQ=>by
  have hT:s.TypeIs (.ref it) "dict_keyiterator":=⟨_,st,rfl⟩
  refine Ie hT IS<|EH IS hT F.entry_dict_keyiterator_iter ?_<|F.args_dict_keyiterator_iter_1 _;show wpAny _ _ (ret<|.ref it) _ _ s;exact DL ⟨_,rfl,"dict_keyiterator",_,hT,Fq.lookup,hQ⟩
def p9(prog:E4)(w:E8)(K:DJ)(tl:TE):TI:=fun σ H R=>tl σ H fun x H1=>∃G a o kvs,x=.ref a/\Same G H1/\H1 a=some (XO a o)/\(a==sysModules)=false/\DictP prog w K G o kvs/\∀es ep,o.data=.dict es ep->es.size=kvs.length->(∀(i:Nat)(e:GC)(p:(Int×Int)×V),es[i]? =some e->kvs[i]? =some p->∃b,e.key=.ref b/\SqT K G b [.int p.1.1,.int p.1.2])->R (CK a o es) H1
theorem DictP.ents{prog:E4}{w:E8}{K:DJ}{G:Hp}{o:Obj}{kvs:List ((Int×Int)×V)}(h:DictP prog w K G o kvs):∃es ep,o.ExactDict/\o.data=.dict es ep/\es.size=kvs.length/\∀(i:Nat)(e:GC)(p:(Int×Int)×V),es[i]? =some e->kvs[i]? =some p->∃b,e.key=.ref b/\SqT K G b [.int p.1.1,.int p.1.2]:=by
 obtain⟨es,ep,ys,hx,hdat,he,nd,rel⟩:=h;refine⟨es,ep,hx,hdat,by rw[<-Eu,he,El];exact(Paired.length rel).symm,fun i e p h1 h2=>?_⟩;rw[<-DX,he,DU]at h1;obtain⟨y,h3,rfl⟩:=EO.mp h1;obtain⟨p',h4,h5,h6,h7⟩:=iM rel h3;rw[h2]at h4;cases h4;exact⟨y.2.1,rfl,h6⟩
section
variable{X:Cx}{K:DJ}{pos pos':Pos}{o i e tg l:Expr}{td ty tv tl tk:TE}{pins:List (Addr×Obj)}{σ:St}{H:Hp}{s:DN}
theorem vj(hl:PE X l tl):PI X tg l (p9 X.prog X.w X.K tl):=by
 intro pins s σ H R I h;refine bG (hl pins s σ H _ I h) fun v s1 zz=>?_;obtain⟨x,H1,I1,r1,q1⟩:=zz;obtain⟨G,a,ob,kvs,e,eG,ha,lo,d,q⟩:=q1;subst e;cases r1;obtain⟨es,ep,hx,hdat,hs,at_⟩:=d.ents;have ho:s1.heap.get? a=some ob:=(I1.hok a _ ha).1;refine sr lo ho hx hdat ?_;refine⟨s1.heap.objs.size,[s1.heap.objs.size],_,_,H1,rfl,I1.kept (t':=s1.toks) fun b o e=>DH _ e,p8 hdat hx<|fun i e he=>?_,DS _ rfl,fun b hb=>?_,q es ep hdat hs at_⟩
 ·have hi:i< kvs.length:=by have:=(G0.mp he).1;omega
  obtain⟨b,hb,_⟩:=at_ i e _ he<|DO hi;exact⟨b,hb⟩
 ·have e:b=s1.heap.objs.size:=by simpa using hb
  subst e;exact I1.fpOk (DQ _)<|I1.hok.fresh<|DQ _
def vm(prog:E4)(w:E8)(K:DJ)(td ty:TE):TE:=fun σ H Q=>td σ H fun x H1=>ty σ H1 fun y H2=>∃G a kvs b k v,x=.ref a/\PDa prog w K G H2 a kvs/\y=.ref b/\SqT K G b [.int k.1,.int k.2]/\f9 kvs k=some v/\Q v H2
theorem xn(hu:X.A.units+1<cLine)(ho:PE X o td)(hi:PE X i ty)(hs:tL i):PE X (.Subscript o i pos) (vm X.prog X.w X.K td ty):=by
 intro pins s σ H Q I h;refine pU Jh.lookup hs<|bG (ho pins s σ H _ I h) fun u s1 zz=>?_;obtain⟨x,H1,I1,rx,q1⟩:=zz;refine bG (hi pins s1 σ H1 _ I1 q1) fun iv s2 zz=>?_;obtain⟨y,H2,I2,ry,G,a,kvs,b,k,v,ex,g,ey,hb,ev,q2⟩:=zz;subst ex ey;obtain rfl:u=F1 a:=rx;obtain rfl:iv=F1 b:=ry;obtain⟨xs,rel,dd,hx⟩:=g.h I2;obtain⟨ob,eG,ha,lo,_,_⟩:=g;have hT:s2.TypeIs (.ref a) "dict":=by
  obtain⟨od,es,ep,h1,h2,_⟩:=id dd;exact⟨od,h1,h2.1⟩
 refine⟨hT,?_⟩;obtain⟨w',hw,rw'⟩:=N2 (v:=v) (o:=(atKey xs<|iC k).map (·.2)) (by rw[<-ev];exact rel.val k);obtain⟨p,hp,rfl⟩:=EO.mp hw;exact wpAny_getItem_heap (HV hu) (dM I2<|Fm eG hb) dd hp ⟨v,H2,I2.tok _,rw',q2⟩
def vn(prog:E4)(w:E8)(K:DJ)(td ty tv:TE):TE:=fun σ H Q=>td σ H fun x H1=>∃a,x=.ref a/\(ty σ H1 fun y H2=>tv σ H2 fun z H3=>∃G kvs b k,PDa prog w K G H3 a kvs/\y=.ref b/\SqT K G b [.int k.1,.int k.2]/\Q ((f9 kvs k).getD z) H3)/\∃o kvs G,Same G H1/\H1 a=some (XO a o)/\(a==sysModules)=false/\DictP prog w K G o kvs
theorem sy{x:Option V}{y:Option DM}{z:V}{u:DM}(r:RelO x y)(rz:RelV z u):RelV (x.getD z) (y.getD u):=by
 cases x<;>cases y;·exact rz
 ·exact r.elim
 ·exact r.elim
 ·exact r
theorem vo{apos cpos:Pos}{k d:Expr}(hu:X.A.units+1<cLine)(ho:PE X o td)(hk:PE X k tk)(hd:PE X d tv)
  (hbase:attributeBase o (DP "get") X.env (eval o X.env)=eval o X.env:=by rfl)
  (hfew:((backTo cpos<|starEach [k,d] X.env).all (fun x=> !x.1) && (backToKw cpos<|keywordEach [] X.env).all (fun x=>x.1.isSome)
   &&decide (([k,d]:List Expr).length+([]:List JW).length+(if([]:List JW).isEmpty then 0 else 1)<30))=true:=by rfl)
  (hline:(apos.endLine==cpos.line)=true:=by rfl) (hs:starEach [k,d] X.env=[(false,eval k X.env),(false,eval d X.env)]:=by rfl):
  PE X (.Call (.Attribute o (DP "get") apos) [k,d] [] cpos) (vn X.prog X.w X.K td tk tv):=by
 intro pins s σ H Q I h;refine JX hbase hfew hline rfl<|bG (ho pins s σ H _ I h) fun v s1 zz=>?_;obtain⟨x,H1,I1,r1,a,e,q1,ob,kvs,G,eG,ha,lo,dp⟩:=zz;subst e;cases r1;obtain⟨es,ep,hx,hdat,_⟩:=dp.ents;have hob:s1.heap.get? a=some ob:=(I1.hok a _ ha).1;refine⟨"dict","dict.get",PySem.F.plainAttrs_dict,PySem.F.slot_dict_get,PySem.F.type_dict_get,⟨ob,hob,hx.1⟩,fun b e2=>?_,?_⟩
 ·cases e2;exact⟨ob,hob,hx.2.1⟩
 ·rw[hs];refine wpAny_dict_get2_heap (knd:=tupleKind<|mixKind X.prog X.w) (HV hu) lo<|bG (hk pins s1 σ H1 _ I1 q1) fun u s2 zz=>?_;obtain⟨y,H2,I2,r2,q2⟩:=zz;refine bG (hd pins s2 σ H2 _ I2 q2) fun t s3 zz=>?_;obtain⟨z,H3,I3,r3,G3,kvs3,b,kk,g3,ey,hb,q3⟩:=zz;subst ey;obtain rfl:u=F1 b:=r2;obtain⟨xs,rel,dd,hz⟩:=g3.h I3;obtain⟨_,eG3,_⟩:=g3;exact⟨b,iC kk,xs,rfl,dM I3<|Fm eG3 hb,dd,_,H3,I3.tok _,sy (rel.val kk) r3,q3⟩
def vp(cap:List (Option Nat))(wi:TI)(g:TG)(tf:TT)(tb:TB):TE:=fun σ H Q=>wi σ H fun J H1=>∀D,H1 D=none->(D==sysModules)=false->rQ g tf tb D (bh cap σ) (cn H1 D<|XO D gi) (fun H'=>Q (.ref D) H') J
def pb(prog:E4)(w:E8)(K:DJ)(tk tv:TE):TB:=fun D σ H N=>tk σ H fun y H1=>tv σ H1 fun v H2=>∃G kvs b k,PDa prog w K G H2 D kvs/\kvs.length<1000/\y=.ref b/\SqT K G b [.int k.1,.int k.2]/\∀o',DictP prog w K G o' (oF kvs k v)->N (cn H2 D<|XO D o')
theorem vq{Y:Cx}{kx vx:Expr}(hxe:Y.xe=fun _ _=>False)(hu:Y.A.units+1<cLine)(hk:PE Y kx tk)(hv:PE Y vx tv):PB Y (yw kx vx Y.env) (pb Y.prog Y.w Y.K tk tv):=by
 intro D pins s σ H N I h;have hk':=hk pins s σ H _ I h;rw[hxe]at hk';refine DF<|bG hk' fun u s1 zz=>?_;obtain⟨x,H1,I1,r1,q1⟩:=zz;have hv':=hv pins s1 σ H1 _ I1 q1;rw[hxe]at hv';refine DF<|Fz<|bG hv' fun r s2 zz=>?_;obtain⟨y,H2,I2,r2,G,kvs,b,k,g,hl,ex,hb,q⟩:=zz;subst ex;obtain rfl:u=F1 b:=r1;obtain⟨xs,rel,dd,hx⟩:=g.h I2;obtain⟨ob,eG,ha,lo,_,_⟩:=g;refine DF (Gq (Fz (wpAny_dictSet_heap (hsz:=by rw[F3];omega) (show(tupleKind<|mixKind Y.prog Y.w).room Y.A from Nat.lt_of_succ_lt hu) (dM I2<|Fm eG hb) dd fun h' dd' hs=>?_)));obtain⟨o',es,ep,hq,h2,h3,h4,_,h5⟩:=dd';exact⟨σ,_,pT I2 (by rw[ha];exact Hd) hs ⟨o',hq⟩<|Nm hq,fun _ _ e=>e,q o' ⟨es,ep,_,h2,h3,h4,h5,rel.put k hb r2⟩⟩
variable{scope:Hi}{N:List Str}{cap:List (Option Nat)}{iter kx vx:Expr}{ifs:List Expr}{wi:TI}{g:TG}{tf:TT}{tb:TB}{body:Env->DM->Sem Unit}
theorem iT(hu:X.A.units+1<cLine)(S:CompScope X scope N cap)(hc:X.calm=true)(hi:PI X tg iter wi)
  (hg:∀s H C fp,PG (aH X scope N s H C fp) tg g) (hf:∀s H C fp,sW (aH X scope N s H C fp) ifs tf) (hk:∀s H C fp,PE (aH X scope N s H C fp) kx tk) (hv:∀s H C fp,PE (aH X scope N s H C fp) vx tv)
  (hs:∀x,foldedSetIterable iter X.env x=pure x:=by intro _;rfl):PE X (.DictComp kx vx [⟨tg,iter,ifs,0⟩] scope pos) (vp cap wi g tf<|pb X.prog X.w X.K tk tv):=by
 intro pins s σ H Q I h;rw[arm_eval_DictComp];have frc:∀x∈scope.names,x.2=.free->∃c,X.env.cells.lookup x.1=some c:=fun x hx hk=>I.ok.has x.1<|S.free x hx hk;refine GF (use:=none) rfl hs (dn frc) S.kind (fC S)<|bG (hi pins s σ H _ I h) fun v s1 h1=>bG h1 fun itv s2 h2=>?_;obtain⟨it,fp,tn,J,H2,rfl,I2,T,st2,f2,w⟩:=h2;refine F4 ?_;have hz:H2 s2.heap.objs.size=none:=I2.hok.fresh<|DQ _;have I3:Inv X pins σ (cn H2 s2.heap.objs.size<|XO s2.heap.objs.size gi) {s2 with heap:=s2.heap.push {cls:=.type "dict",dict:=none,data:=.dict #[]}}:=
  I2.laid (a:=s2.heap.objs.size) (t':=s2.toks) (fun _ _ q=>DH _ q) (DQ _) (Nm (o:=gi)<|DS _ rfl)
 have nD:∀b∈fp,b≠s2.heap.objs.size:=fun b hb=>by
  obtain⟨o,e,_⟩:=T.obj _ _ st2 b hb;exact Ed<|DW e
 have f3:∀b∈fp,FpOk X pins (cn H2 s2.heap.objs.size<|XO s2.heap.objs.size gi) b:=fun b hb=>⟨by rw[aD<|nD b hb];exact(f2 b hb).1,(f2 b hb).2⟩
 refine jV (RR:=fun C=>compPost (model X.prog X.w) X.A X.xe none (EP X pins σ Q) (.ref s2.heap.objs.size) C) (body:=yw kx vx) S hc CompE.dict rfl hg hf (fun s H C fp=>vq (Y:=aH X scope N s H C fp) rfl hu (hk s H C fp)<|hv s H C fp) (fun _ _ _=>rfl) I3 T (T.keep _ _ _ st2 fun b hb o e=>DH _ e) f3 (w _ hz<|beq_eq_false_iff_ne.mpr<|HN<|Ed I2.big) fun C σ' H' s' hC I' q=>?_;obtain⟨m,hn,_⟩:=I'.loc;exact⟨m,hn,fun h' hs'=>⟨.ref _,H',lb I3 f3 hC I' hs',rfl,q⟩⟩
end
end L2
namespace Wb
open PySem L2 Mi
section
variable{Er:Nat->Prop}{α β:Type}{prog:E4}{w:E8}{K:DJ}{W W' W0 Wb W1 W2:Wd}{σ:St}{t te tk tv td ti ta:TE}{R:Rp α}{i:Nat}{p:Addr}{D:Ends}{r:TS}
def isPD(prog:E4)(w:E8)(K:DJ)(R:Rp α):Rp (List<|(Int×Int)×α):=fun G kvs v=>∃p o vs,v=.ref p/\G p=some (XO p o)/\(p==sysModules)=false/\DictP prog w K G o vs/\vs.length<=1000/\vs.length=kvs.length/\∀(i:Nat)(q:(Int×Int)×V)(x:(Int×Int)×α),vs[i]? =some q->kvs[i]? =some x->q.1=x.1/\R G x.2 q.2
instance zkeep68[Mono R]:Mono (isPD prog w K R):=⟨fun e⟨p,o,vs,h0,h1,h2,h3,h4,h5,h6⟩=>⟨p,o,vs,h0,e _ _ h1,h2,dictP_same h3 e,h4,h5,fun i q x a b=>⟨(h6 i q x a b).1,DD e (h6 i q x a b).2⟩⟩⟩
theorem OwP.frz[Mono R]{kvs:List ((Int×Int)×α)}(o:OwP prog w K R W p kvs)(e:Ext W0 W)(hp:W0.H p=none):
  ∃W',W'.H=W.H/\Ext W0 W'/\Same W.G W'.G/\isPD prog w K R W'.G kvs (.ref p)/\∀q,q≠p->W'.G q=W.G q:=by
 obtain⟨ob,vs,a,lo,b,hl,c,d⟩:=o.h;exact⟨W.frz p _ a,rfl,e.frz hp a o.g,cO o.g,⟨p,ob,vs,rfl,aI,lo,dictP_same b<|cO o.g,hl,c,fun i q x h1 h2=>⟨(d i q x h1 h2).1,DD (cO o.g) (d i q x h1 h2).2⟩⟩,fun q hq=>aD hq⟩
theorem EVp.ev[Mono R]{m:Res (List<|(Int×Int)×α)}(h:EVp prog w K Er t σ W R m):EV Er t σ W (sh<|isPD prog w K R) m:=fun W1 e1 Q k=>h W1 e1 Q (k.imp fun xs kx p W2 e2 hp o=>by
 obtain⟨W3,hH,e3,_,r,_⟩:=o.frz e2 hp;rw[<-hH];exact kx (.ref p) W3 e3 r)
theorem kD[Mono R]{mk:Res (Int×Int)}{mv:Res α}{D:Addr}(eb:Ext Wb W)(hD:Wb.H D=none)(h:EV Er tk σ W (sh<|isT2 K isI isI) mk)(h':EV Er tv σ W (sh R) mv):BV Er (pb prog w K tk tv) σ Wb W (OwP prog w K R) D (fun kvs=>mk.bind fun k=>mv.bind fun a=>fv kvs k a):=fun W1 xs N e1 o k=>
 h W1 e1 _ ((DE k).imp fun b kb x W2 e2 hx=>h' W2 (e1.trans e2) _ ((DE kb).imp fun a ka v W3 e3 hv=>by
  obtain⟨h3,h4⟩:=aZ ka;have o':=o.mono (e2.trans e3);obtain⟨ob,vs,o1,lo,o2,hl,o3,o4⟩:=o'.h;obtain⟨p1,p2⟩:=nQ o3 o4 (k:=b) hv;have e:=(e1.trans e2).trans e3;obtain⟨q,x1,x2,rfl,t1,r1,r2⟩:=hx;cases r1;cases r2;refine⟨W3.G,vs,q,b,⟨ob,W3.ok,o1,lo,o2,hl⟩,by omega,rfl,Fm e3.g t1,fun o2' d'=>?_⟩;exact h4 (W3.mut D (XO D o2') o'.g) (e2.trans e3).g ((eb.trans e).mut hD o'.g) ⟨o'.g,o2',_,aI,lo,d',by have:=nR (kvs:=xs) (k:=b) (a:=a);omega,p1,p2⟩))
theorem kE{R0:Rp β}[Mono R]{cap:List (Option Nat)}{wi:TI}{g:TG}{tf:TT}{t:TB}{mi:Res (List β)}{f:β->List ((Int×Int)×α)->Res (List<|(Int×Int)×α)}(hi:IV Er wi σ W R0 mi)
  (hs:∀Wb D W2 a v s(M:Hp->Prop),Same W.G W2.G->Ext W Wb->Wb.H D=none->Ext Wb W2->OwP prog w K R W2 D s->R0 W2.G a v->(f a s).OkE Er (fun s'=>∀W',Same W2.G W'.G->Ext Wb W'->OwP prog w K R W' D s'->M W'.H)->g v (bh cap σ) W2.H fun σ2 H2=>Keep (bh cap σ) σ2/\tf σ2 H2 fun b H3=>if b=true then t D σ2 H3 M else M H3):
  EVp prog w K Er (vp cap wi g tf t) σ W R (mi.bind fun xs=>bB f xs []):=fun W1 e1 Q k=>
 hi W1 e1 _ ((DE k).imp fun xs kx J W2 e2 hy D hD lo=>by
  refine lY (W:=W2) (W1:=W2.mut D (XO D gi) (W2.gnone hD)) (Wb:=W2) (O:=OwP prog w K R) (s0:=[]) hy (.inr (.refl _)) (.own _ hD) ⟨W2.gnone hD,gi,[],aI,lo,nP ..,by decide,rfl,fun i q x h=>by simp at h⟩ (fun W3 a v s M e3 eb3 o3 r k3=>hs W2 D W3 a v s M ((e1.trans e2).g.trans e3) (e1.trans e2) hD eb3 o3 r k3) (fun _ _ _ e o=>o.mono e) ?_;exact kx.imp fun s' ks W' z1 z2 z3=>ks D W' (e2.trans z2) (aR e2.h hD) z3)
theorem iq{H:Hp}:∀(vs:List ((Int×Int)×V))(kvs:List ((Int×Int)×α)),vs.length=kvs.length->(∀(i:Nat)(q:(Int×Int)×V)(x:(Int×Int)×α),vs[i]? =some q->kvs[i]? =some x->q.1=x.1/\R H x.2 q.2)->∀k,(match look kvs k with|none=>f9 vs k=none|some a=>∃v,f9 vs k=some v/\R H a v)
 | [],[],_,_,k=>rfl
 | [],_::_,h,_,_=>by simp at h
 |_::_,[],h,_,_=>by simp at h
 |q::vs,x::kvs,hl,h,k=>by
  obtain⟨h1,h2⟩:=h 0 q x rfl rfl;have ih:=iq vs kvs (by simpa using hl) (fun i q x a b=>h (i+1) q x a b) k;by_cases e:x.1=k
  ·have a:look (x::kvs) k=some x.2:=by simp[look,FP,e]
   rw[a,fS<|h1.trans e];exact⟨q.2,rfl,h2⟩
  ·have a:look (x::kvs) k=look kvs k:=by simp[look,FP,e]
   rw[a,fT<|fun z=>e<|h1.symm.trans z];exact ih
theorem jq[Mono R]{md:Res (List<|(Int×Int)×α)}{mk:Res (Int×Int)}(hd:EV Er td σ W (sh<|isPD prog w K R) md)(hk:EV Er tk σ W (sh<|isT2 K isI isI) mk):EV Er (vm prog w K td tk) σ W (sh R) (md.bind fun d=>mk.bind fun k=>getD d k):=fun W1 e1 Q k=>
 hd W1 e1 _ ((DE k).imp fun d kd x W2 e2 hx=>hk W2 (e1.trans e2) _ ((DE kd).imp fun b kb y W3 e3 hy=>by
  obtain⟨p,o,vs,rfl,h1,h2,h3,h4,h5,h6⟩:=(DD (R:=isPD prog w K R) e3.g hx)
  obtain⟨q,x1,x2,rfl,t1,r1,r2⟩:=hy;cases r1;cases r2;obtain⟨a,ha,ka⟩:=eQ kb;have lr:=iq vs d h5 h6 b;rw[ha]at lr;obtain⟨v,hv,rv⟩:=lr;exact⟨W3.G,p,vs,q,b,v,rfl,⟨o,W3.ok,W3.ok _ _ h1,h2,h3,h4⟩,rfl,t1,hv,ka v W3 (e2.trans e3) rv⟩))
theorem vt[Mono R]{md:Res (List<|(Int×Int)×α)}{mk:Res (Int×Int)}{mz:Res α}(hd:EV Er td σ W (sh<|isPD prog w K R) md)(hk:EV Er tk σ W (sh<|isT2 K isI isI) mk)(hz:EV Er tv σ W (sh R) mz):EV Er (vn prog w K td tk tv) σ W (sh R) (md.bind fun d=>mk.bind fun k=>mz.bind fun z=>.ok<|sx d k z):=fun W1 e1 Q k=>
 hd W1 e1 _ ((DE k).imp fun d kd x W2 e2 hx=>by
  obtain⟨p,o,vs,rfl,h1,h2,h3,h4,h5,h6⟩:=id hx;refine⟨p,rfl,hk W2 (e1.trans e2) _<|(DE kd).imp fun b kb y W3 e3 hy=>hz W3 ((e1.trans e2).trans e3) _<|(DE kb).imp fun z kz u W4 e4 hu=>?_,o,vs,W2.G,⟨W2.ok,W2.ok _ _ h1,h2,h3⟩⟩;have e34:=e3.trans e4;obtain⟨q,x1,x2,rfl,t1,r1,r2⟩:=hy;cases r1;cases r2;have lr:=iq vs d h5 (fun i q x a b=>⟨(h6 i q x a b).1,DD (R:=R) e34.g (h6 i q x a b).2⟩) b;refine⟨W4.G,vs,q,b,⟨o,W4.ok,W4.ok _ _<|e34.g _ _ h1,h2,dictP_same h3 e34.g,h4⟩,rfl,Fm e4.g t1,?_⟩;have kz:∀v W',Ext W1 W'->sh R W' (sx d b z) v->Q v W'.H:=kz;refine kz _ W4 (e2.trans e34) ?_;unfold sx;cases ha:look d b with
  |none=>
   rw[ha]at lr;have lr:f9 vs b=none:=lr;rw[lr];exact hu
  |some a=>
   rw[ha]at lr;obtain⟨v,hv,rv⟩:=lr;rw[hv];exact rv)
theorem vw[Mono R]{m:Res (List<|(Int×Int)×α)}(h:EV Er t σ W (sh<|isPD prog w K R) m):IV Er (p9 prog w K t) σ W (isT2 K isI isI) (m.bind fun d=>.ok (d.map (·.1))):=fun W1 e1 P k=>
 h W1 e1 _ ((DE k).imp fun d kd x W2 e2 hx=>by
  obtain⟨p,o,vs,rfl,h1,h2,h3,h4,h5,h6⟩:=hx;refine⟨W2.G,p,o,vs,rfl,W2.ok,W2.ok _ _ h1,h2,h3,fun es ep hdat hs at_=>kd _ W2 e2 fun W3 e3=>⟨fun i a ha=>?_,W3.ok _ _<|e3 _ _ h1,by rw[El,hs,h5]⟩⟩;rw[DU]at ha;obtain⟨x,hx,rfl⟩:=EO.mp ha;have hi:i<es.size:=by have:=(DR.mp hx).1;omega
  have hv:i<vs.length:=by omega
  refine⟨⟨W3.ok _ _<|e3 _ _ h1,hi⟩,fun y H'⟨z1,e,he,ry⟩=>⟨W3,z1.symm,.refl _,?_⟩⟩;obtain⟨b,hb,hq⟩:=at_ i e _ he<|DO hv;have:=(h6 i _ x (DO hv) hx).1;rw[this]at hq;rw[hb]at ry;have:y=.ref b:=by
   cases y<;>first|(cases ry;rfl)|(obtain⟨_,z⟩:=ry;cases z)|cases ry
  subst this;exact⟨b,_,_,rfl,Fm e3 hq,rfl,rfl⟩)
end
end Wb
open Wb.EVp renaming ev->NT
namespace L2
open PySem PySem.Spec PyProof.Rows Wb
theorem zL:isSubtype (Il "range_iterator") (Il "reversed")=pure false:=by rfl
section
variable{prog:E4}{w:E8}{A:EB}{E:DM->DN->Prop}{s:DN}
theorem gF{r:Addr}{n:Int}{t u v:Tok}{Q:DM->DN->Prop}(hr:IsRange s.heap r 0 n 1 t u v)(h0: -(2^61)<=n)(h1:n<2^61)
  (hQ:Q (.ref s.heap.objs.size) {s with heap:=s.heap.push {cls:=.type "range_iterator",data:=.fields #[rawInt (0+(Fd 0 n 1-1)*1),rawInt<|Fd 0 n 1,rawInt<|-1]}}):wpAny (model prog w) A (call (.type "reversed") [.ref r]) Q E s:=by
 have hT:s.TypeIs (.ref r) "range":=⟨_,hr,rfl⟩
 refine callType_other (U:="range_iterator") (Q₁:=fun obj s1=>s1.TypeIs obj "range_iterator"/\Q obj s1) rfl F.create_reversed ⟨_,_,F.mro_reversed⟩ F.made_reversed zL (F.typeCall_reversed_1 _) (codeAny_call_builtin F.plain_reversed_new F.entry_reversed_new ?_)<|fun obj s1 h=>h;rw[F.newCall_reversed_1];refine DL ?_;unfold Fw.«reversed.__new__»;rw[newClass_reversed];refine DF<|DL ?_;show wpAny _ _ (L9 "reversed" _ _>>=_) _ _ s;refine DF<|DL ?_;refine DF (m:=checkCount "reversed" 1 1 _)<|DL ?_;show wpAny _ _ (specialOf (.ref r) (DP "__reversed__")>>=_) _ _ s;refine DF<|IJ hT Kj.lookup ?_;show wpAny _ _ (bindSpecial (.builtin "range.__reversed__") (.ref r)>>=_) _ _ s;have hb:bindSpecial (.builtin "range.__reversed__") (.ref r)=pure (.builtin "range.__reversed__",[.ref r]):=by
  unfold bindSpecial;rw[F.type_range_reversed];rfl
 rw[hb];refine DF<|DL ?_;show wpAny _ _ (rule "reversed.__new__.own-method">>=_) _ _ s;refine DF<|G6 ?_;show wpAny _ _ (call (.builtin "range.__reversed__") [.ref r]>>=_) _ _ s;refine DF<|EH Kj hT F.entry_range_reversed ?_<|F.args_range_reversed_1 _;unfold Fw.«range.__reversed__»;refine DF (m:=selfOnly "range.__reversed__" _)<|DL ?_;show wpAny _ _ (Jk (.ref r)>>=_) _ _ s;refine DF ?_;unfold Jk;refine DF<|EW hr rfl (x:=.int 0 t) rfl<|DF (m:=asInt? _)<|DL ?_;refine DF<|EW hr rfl (x:=.int n u) rfl<|DF (m:=asInt? _)<|DL ?_;refine DF<|EW hr rfl (x:=.int 1 v) rfl<|DF (m:=asInt? _)<|DL ?_;refine DL ?_;have hs:(F7 0&&F7 n&&F7 1&&F7 (-1)&&F7 (0-1)&&F7 (Fd 0 n 1))=true:=by
  have e:Fd 0 n 1=if 0<n then n else 0:=by
   unfold Fd;rw[if_pos (by decide)];split;·rw[N0];omega
   ·rfl
  unfold F7;rw[e];simp only[GN,decide_eq_true_eq];refine⟨⟨⟨⟨⟨by decide,by omega,by omega⟩,by decide⟩,by decide⟩,by decide⟩,?_,?_⟩<;>split<;>omega
 dsimp only;rw[hs];show wpAny _ _ (newFields "range_iterator" _>>=_) _ _ s;unfold newFields;refine DF<|F4<|DL ⟨_,rfl,DL ?_⟩;exact⟨⟨_,DS _ rfl,rfl⟩,hQ⟩
end
section
variable{X:Cx}{tg:Expr}
def B8(n:Nat):It:=⟨fun i _=>i<n,fun i H x H'=>H'=H/\x=.int ((n:Int)-1-i),fun i _=>n<=i⟩
theorem nS{P:E4}{w:E8}{K:DJ}{tg:Expr}(it:Addr)(n:Nat):Turn P w K tg (B8 n) [it] it (fun i h=>Kq h it (((n:Int)-1)+i*(-1)) ((n:Int)-i)<|-1) where
 mem:=by simp
 obj:=fun i h st b hb=>by
  have e:b=it:=by simpa using hb
  subst e;exact⟨_,st,fun v z=>by
   have z':Iw _=Hk v:=z;cases z'⟩
 keep:=fun i h h' st k=>k it (by simp) _ st
 item:=by
  intro X hP hw hK hc i pins s σ H E I hf st hg;subst hP hw hK;obtain⟨f0,f1,f2,f3,f4,f5⟩:=hf it (by simp);have W:=Walks.range (prog:=X.prog) (w:=X.w) (I.ok.hd hc) it ((n:Int)-1) (-1) n;refine W.item i s _ _ hg st fun v h' tk hv st' kk=>?_;obtain⟨t,rfl⟩:=hv;have I1:Inv X pins σ H {s with heap:=h',toks:=tk}:=I.turned (fun b o hb e=>kk b o (by simpa using hb) e) f0 f1 f3 f4 f5;refine⟨_,rfl,kS (s:={s with heap:=h',toks:=tk}) (n:="range_iterator") st' rfl rfl (by decide) ⟨.int<|(n:Int)-1-i,H,I1,⟨t,?_⟩,⟨rfl,rfl⟩,st',fun b hb=>(hf b hb).1⟩⟩;congr 1;omega
 done:=by
  intro X hP hw hK hc i pins s σ H E I hf st hg;subst hP hw hK;obtain⟨f0,f1,f2,f3,f4,f5⟩:=hf it (by simp);exact JU (I.ok.hd hc) st (by have:n<=i:=hg;omega) fun h' eb=>⟨rfl,I.turned (t':=s.toks) (fun b o hb e=>eb b o hb e) f0 f1 f3 f4 f5⟩
 self:=fun _ _ _ _ _ st h=>HY st h
theorem ir{P:E4}{w:E8}{K:DJ}{o i:Expr}{pos:Pos}{td ty:TE}(hP:X.prog=P)(hw:X.w=w)(hK:X.K=K)(hu:X.A.units+1<cLine)(ho:PE X o td)(hi:PE X i ty)(hs:tL i):PE X (.Subscript o i pos) (vm P w K td ty):=by
 subst hP hw hK;exact xn hu ho hi hs
theorem sA{P:E4}{w:E8}{K:DJ}{l:Expr}{tl:TE}(hP:X.prog=P)(hw:X.w=w)(hK:X.K=K)(hl:PE X l tl):PI X tg l (p9 P w K tl):=by
 subst hP hw hK;exact vj hl
def yC(ta:TA):TI:=fun σ H R=>ta σ H fun vs H1=>∃j:Int,vs=[.int j]/\ -(2^61)<=j/\j<2^61/\R (B8 j.toNat) H1
theorem pf(n:Int):Fd 0 n 1=(n.toNat:Int):=by
 unfold Fd;rw[if_pos (by decide)];split;·rw[N0];omega
 ·omega
theorem sC{a:Expr}{ta:TA}{p p2 pos pos2:Pos}(hg:Gl X "reversed")(hm:X.mg "reversed"=none)(hg2:Gl X "range")(hm2:X.mg "range"=none)(ha:PA X [a] ta)
  (hs0:starEach [.Call (.Name "range" p2) [a] [] pos2] X.env=[(false,eval (.Call (.Name "range" p2) [a] [] pos2) X.env)]:=by rfl)
  (hs:starEach [a] X.env=[(false,eval a X.env)]:=by rfl):PI X tg (.Call (.Name "reversed" p) [.Call (.Name "range" p2) [a] [] pos2] [] pos) (yC ta):=by
 intro pins s σ H R I h;refine Nc<|fw I hg hm boot_reversed<|F6 ?_ hs0 rfl;rw[hs0];show wpAny _ _ (spliced ((false,eval (.Call (.Name "range" p2) [a] [] pos2) X.env)::[])) _ _ s;refine KW ?_;refine Nc<|fw I hg2 hm2 boot_range<|F6 (bG (ha pos2 pins s σ H _ I h) fun us s1⟨vs,H1,I1,r1,q1⟩=>?_) hs rfl;obtain⟨j,e,q1,q2,q⟩:=q1;subst e;cases r1 with
 |cons r rr=>
  cases rr;obtain⟨t,rfl⟩:=r;refine call_range_1<|Ld ?_;refine gF (Nb ..) q1 q2 ?_;rw[pf];have st:∀h:Heap,Kq (h.push {cls:=.type "range_iterator",data:=.fields #[rawInt (0+((j.toNat:Int)-1)*1),rawInt (j.toNat:Int),rawInt<|-1]}) h.objs.size (((j.toNat:Int)-1)+((0:Nat):Int)*(-1)) ((j.toNat:Int)-((0:Nat):Int)) (-1):=fun h=>by
   have e1:((j.toNat:Int)-1)+((0:Nat):Int)*(-1)=0+((j.toNat:Int)-1)*1:=by omega
   have e2:(j.toNat:Int)-((0:Nat):Int)=(j.toNat:Int):=by omega
   rw[e1,e2];exact DS _ rfl
  refine HY (st _) ?_;refine⟨_,[_],_,_,H1,rfl,I1.kept<|fun b o e=>DH _<|DH _ e,nS _ j.toNat,st _,fun b hb=>?_,q⟩;have e:=Hh.mp hb;subst e;have hle:∀o:Obj,s1.heap.objs.size<=(s1.heap.push o).objs.size:=fun o=>by rw[EX];exact Jr _
  exact I1.fpOk (hle _)<|I1.hok.fresh<|hle _
end
end L2
namespace Wb
open PySem L2 Mi
section
variable{Er:Nat->Prop}{W:Wd}{σ:St}{ta:TE}
theorem sD{m:Res Int}(h:EV Er ta σ W (sh isI) m):IV Er (yC<|aL ta bV) σ W isI (m.bind fun i=>mw i):=fun W1 e1 P k=>
 h W1 e1 _ ((DE k).imp fun i ki v W2 e2 hv=>by
  cases hv;obtain⟨⟨h1,h2⟩,h3⟩:=aZ ki;refine⟨i,rfl,h1,h2,h3 _ W2 e2 fun W3 e3=>⟨fun j a ha=>?_,?_⟩⟩
  ·unfold fe at ha;have hj:j<i.toNat:=by
    have:=(DR.mp ha).1;simpa using this
   rw[Gx (by simpa using hj),El,Jt,DU,Gm (by omega)]at ha;cases ha;refine⟨hj,fun y H'⟨z1,z2⟩=>⟨W3,z1.symm,.refl _,?_⟩⟩;rw[z2];show Hr _=Hr ((i.toNat-1-j:Nat):Int);congr 1;omega
  ·show i.toNat<=(fe i).reverse.length;unfold fe;simp)
end
end Wb
namespace L2
open PySem PySem.Spec PyProof.Rows
def CL:Ap:=fun x y H Q=>∃i j,x=.str i/\y=.str j/\i.length+j.length<=sizeLine/\Q (.str<|i++j) H
theorem xo{X:Cx}:Bs X .Add CL:=mQ
section
variable{X:Cx}
theorem du(i:Nat){x:Str}{pos:Pos}(hN:X.N.Nodup:=by exact NH (by assumption))(hi:X.N[i]? =some x:=by rfl)(hx:ym X.env.scope x:=by first|exact MW rfl|exact M7 rfl)(hf:X.fn x=true\/X.env.scope.names.lookup x=some .local:=by first|exact .inl rfl|exact .inr rfl|assumption):PG X (.Name x pos) (d5 i):=bo hN hi hx hf
theorem bW(i:Nat){x:Str}{e:Expr}{te:TE}{pos pos':Pos}(he:PE X e te)(hN:X.N.Nodup:=by exact NH (by assumption))(hi:X.N[i]? =some x:=by rfl)(hx:ym X.env.scope x:=by first|exact MW rfl|exact M7 rfl)(hs:swapsWith e (some<|.Name x pos') pos.line X.env=pure false:=by rfl)(hf:X.fn x=true\/X.env.scope.names.lookup x=some .local:=by first|exact .inl rfl|exact .inr rfl|assumption):PS X (.Assign [.Name x pos'] e pos) (iG te<|d5 i):=yW hN hi hx he hs hf
theorem cv{x:Str}{ps:List Str}{k:Nat}{sp:Sp}{p pos:Pos}{e:Expr}{es:List Expr}{t:TA}(C:Cal X.prog X.w X.K X.mg X.base x ps k sp)(ha:PA X (e::es) t)(hr:Room k X.A:=by exact Room.mono (by assumption) (by decide))(hg:Gl X x:=by rfl)
  (hdb:(x==("__debug__" :Str))=false:=by decide) (he:starEach (e::es) X.env=(false,eval e X.env)::starEach es X.env:=by rfl) (hpl:(backTo pos<|starEach es X.env).any (·.1)=false:=by rfl):PE X (.Call (.Name x p) (e::es) [] pos) (fJ sp [] E0 t):=zm C hr hg ha hdb he hpl
end
end L2
namespace Wb
open PySem L2 Mi
section
variable{Er:Nat->Prop}{W:Wd}{σ:St}{te:TE}{D:Ends}{r:TS}{i:Nat}
theorem xp{a:Tx}{m:Res Tx}{σ':Tx->St}(h:EV Er te σ W (sh isS) m)(q:(m.bind fun b=>jc a b).OkE Er fun c=>∀W',Ext W W'->D.nx (σ' c) W'.H)(hi:σ[i]? =some (some<|.str<|sOf a):=by rfl)(hσ:∀c,σ.set i (some<|.str<|sOf c)=σ' c:=by intro _;rfl):wu i te CL D σ W.H:=
 ⟨.str<|sOf a,hi,h W (.refl _) _ ((DE q).imp fun b kb v W' e hv=>by
  cases hv;obtain⟨h3,h4⟩:=aZ kb;refine⟨sOf a,sOf b,rfl,rfl,?_,?_⟩;·rw[cG,cG,F3];unfold Mi.cap at h3;omega
  ·have:=h4 W' e;rw[<-hσ,<-jA]at this;exact this)⟩
theorem aO{i:Nat}{a:Int}(h:σ[i]? =some (some<|.int a):=by rfl):EV Er (gW i) σ W (sh isI) (.ok a):=jI (R:=sh isI) (v:=.int a) rfl h
theorem cD{i:Nat}{a:Tx}(h:σ[i]? =some (some<|.str<|sOf a):=by rfl):EV Er (gW i) σ W (sh isS) (.ok a):=jI (R:=sh isS) (v:=.str<|sOf a) rfl h
theorem CB{i:Nat}{a:Bool}(h:σ[i]? =some (some<|.bl a):=by rfl):EV Er (gW i) σ W (sh isB) (.ok a):=jI (R:=sh isB) (v:=.bl a) rfl h
theorem aF{α:Type}{R:Rp α}[Mono R]{i:Nat}{a:α}{v:V}(r:R W.G a v)(h:σ[i]? =some (some v):=by rfl):EV Er (gW i) σ W (sh R) (.ok a):=jI (R:=sh R) r h
end
abbrev qA(K:DJ):=isT3 K isS isS isI
abbrev qB(K:DJ):=isT3 K isS isS isS
abbrev qC(K:DJ):=isT2 K isI isI
abbrev qD(K:DJ):=isL<|qB K
abbrev qE(K:DJ):=isL<|qC K
def DI(K:DJ)(x:Str)(st:Stmt)(ps:List Str):Prop:=∃f fd,Fun K x x st f fd/\EE K mainGlobals x=some (some<|.ref f)/\Binds K fd ps []
section
variable{P:E4}{w:E8}{K:DJ}{mg:Str->Option DM}{base h:Heap}{x:Str}{st:Stmt}{ps:List Str}{n:Nat}{sp:Sp}{f:Addr}
def B9:List Str->List DM->List DM
 | [],_=>[]
 |_::r,us=>us.headD .none::B9 r us.tail
theorem vz:∀(ps:List Str)(us:List DM),us.length=ps.length->B9 ps us=us
 | [],us,h=>(IF h).symm
 |_::r,[],h=>by cases h
 |_::r,a::us,h=>by
  show a::B9 r us=_;rw[vz r us<|Nat.succ.inj h]
theorem DI.mk{oc:DM}{od an:Option Addr}{osl:Array (Option DM)}{kV doc pm cdv ct:DM}(da:EE K mainGlobals x=some (some<|.ref f))(dl:K.lookup f=some ⟨oc,od,.func<|Gn x x (defArgs st) (defBody st) (defScope st) .none kV doc pm an cdv ct,osl⟩)
  (dc:I0 K cdv x=true) (dk:Hv K (.ref f)=true) (db:∀(kV doc pm:DM)(an:Option Addr)(cdv ct:DM)(us:List DM),bindArgs (Gn x x (defArgs st) (defBody st) (defScope st) .none kV doc pm an cdv ct) ⟨B9 ps us,[]⟩=pure (ps.zip<|B9 ps us)):DI K x st ps:=
 ⟨f,_,oG dl dc dk,da,(oG dl dc dk).binds fun kV doc pm an cdv ct us hl=>by
  have:=db kV doc pm an cdv ct us;rw[vz ps us hl]at this;exact this⟩
theorem DI.cal(d:DI K x st ps)(X:K.In h)(G:h.Ns mainGlobals mg)(r:∀{f fd},Fun K x x st f fd->FnOk P w K mg base CX0 n f fd ps sp):Cal P w K mg base x ps n sp:=by
 obtain⟨f,fd,F,a,b⟩:=d;exact⟨f,fd,r F,GH X G a,F.kp,b⟩
end
end Wb
namespace L2
open PySem PySem.Spec PyProof.Rows Wb
def Ba:R2:=fun x y H Q=>∃p q xs,x=.ref p/\y=.ref q/\H p=some (.lst xs)/\H q=some (.lst [])/\Q (.bl<|!xs.isEmpty) H
theorem zM{X:Cx}(hu:X.A.units<cLine):gX X (compareOp .NotEq) Ba:=by
 intro pins s σ H x y v u Q I rx ry h;obtain⟨p,q,xs,rfl,rfl,h1,h2,hq⟩:=h;cases rx;cases ry;obtain⟨i1,r1,t1,z1⟩:=I.list<|Gk (K:=X.K) h1;obtain⟨i2,r2,t2,z2⟩:=I.list<|Gk (K:=X.K) h2;have l1:=r1.length;have l2:=r2.length;have key:SeqAt.RcNeAt X.A s (.ref p) (.ref q) (!xs.isEmpty):=by
  cases xs with
  |nil=>
   have:=NF (A:=X.A) (s:=s) (e:=fun _=>true) t1.isList t2.isList (by rw[DY,DY,<-l1,<-l2]) hu (fun j h1' h2'=>by
    have:j<i1.length:=by simpa using h1'
    rw[<-l1]at this;exact absurd this (LY _))
   have e0:i1.toArray.size=0:=by rw[DY,<-l1];rfl
   rw[e0]at this;exact this
  |cons a r=>exact Me t1.isList t2.isList (by simp at l1 l2 ⊢;omega) hu
 exact key _ _ _ _ ⟨.bl _,H,I,rfl,hq⟩
def Bb(K:DJ)(neg:Bool):R2:=fun x y H Q=>∃(a:Int×Int)(ps:List (Int×Int))(p:Addr)(vs:List V),y=.ref p/\isT2 K isI isI H a x/\SqL K H p vs/\LR (isT2 K isI isI) H ps vs/\Q (.bl (if neg then !ps.contains a else ps.contains a)) H
theorem Bc{X:Cx}{pins:List (Addr×Obj)}{σ:St}{H:Hp}{s:DN}{a b:Addr}{k l:Int×Int}(hu:X.A.units+1<cLine)(I:Inv X pins σ H s)(h:SqT X.K H a [.int k.1,.int k.2])(h':SqT X.K H b [.int l.1,.int l.2]):L0 X.A.in1 s (.ref a) (.ref b) (decide<|k=l):=by
 by_cases e:a=b
 ·subst e;rw[decide_eq_true<|kA I h h'];exact LP _
 ·obtain⟨i1,r1,t1,z1⟩:=I.tuple h;obtain⟨i2,r2,t2,z2⟩:=I.tuple h';obtain⟨_,_,rfl,⟨t,rfl⟩,⟨u,rfl⟩⟩:=pQ r1;obtain⟨_,_,rfl,⟨t',rfl⟩,⟨u',rfl⟩⟩:=pQ r2;have key:=NK (A:=X.A.in1) (s:=s) (e:=fun j=>if j=0 then k.1==l.1 else k.2==l.2) t1 t2 hu (fun j h1 h2=>by
   have h1:j<2:=h1
   match j,h1 with
   |0,_=>exact J5 _ _ _ _
   |1,_=>exact J5 _ _ _ _)
  have:decide (k=l)=((F2<|min #[HD k.1 t,.int k.2 u].size #[HD l.1 t',.int l.2 u'].size).all (fun j=>if j=0 then k.1==l.1 else k.2==l.2)&& #[HD k.1 t,.int k.2 u].size== #[HD l.1 t',.int l.2 u'].size):=by
   show decide (k=l)=(([0,1]:List Nat).all _&&(2:Nat)==2)
   simp only[JA,List.all_nil,if_true,Bool.and_true];rw[FA];simp[Prod.ext_iff]
  rw[this];exact NG e key
open Classical in
noncomputable def zN(K:DJ)(H:Hp)(a:Int×Int)(u:DM):Bool:=decide (∃b,u=.ref b/\SqT K H b [.int a.1,.int a.2])
open Classical in
theorem zO{X:Cx}{pins:List (Addr×Obj)}{σ:St}{H:Hp}{s:DN}{b:Addr}{a k:Int×Int}(I:Inv X pins σ H s)(h:SqT X.K H b [.int k.1,.int k.2]):zN X.K H a (.ref b)=decide (k=a):=by
 unfold zN;rw[FA,decide_eq_true_iff,decide_eq_true_iff];constructor
 ·rintro ⟨b',e,h'⟩;cases e;exact kA I h h'
 ·rintro rfl;exact⟨b,rfl,h⟩
theorem qJ{X:Cx}{pins:List (Addr×Obj)}{σ:St}{H:Hp}{s:DN}{q:Addr}{a:Int×Int}(hu:X.A.units+1<cLine)(I:Inv X pins σ H s)(ha:SqT X.K H q [.int a.1,.int a.2]):∀{ps:List (Int×Int)}{vs:List V}{us:List DM},LR (isT2 X.K isI isI) H ps vs->Vals vs us->(us.any (zN X.K H a)=ps.contains a)/\∀u∈us,L0 X.A.in1 s u (.ref q) (zN X.K H a u)
 | [],vs,us,h,r=>by
  have:vs=[]:=IF h.1;subst this;cases r;exact⟨rfl,fun u hu=>by cases hu⟩
 |k::ps,[],us,h,r=>absurd h.1 (by simp)
 |k::ps,v::vs,us,h,r=>by
  cases r with
  |cons r1 r2=>
   obtain⟨g1,g2⟩:=qJ hu I ha (ps:=ps) ⟨by have:=h.1;simpa using this,fun i x m e1 e2=>h.2 (i+1) x m (by simpa using e1) (by simpa using e2)⟩ r2;obtain⟨b,x1,x2,rfl,t1,q1,q2⟩:=h.2 0 v k rfl rfl;cases q1;cases q2;cases r1;have e:=zO (a:=a) I t1;refine⟨?_,fun u hu'=>?_⟩
   ·rw[HJ,g1,e,List.contains_cons];congr 1;rw[FA,decide_eq_true_iff,beq_iff_eq];exact eq_comm
   ·rcases E1.mp hu' with rfl | hu';·rw[e];exact Bc hu I t1 ha
    ·exact g2 u hu'
theorem sE{X:Cx}{K:DJ}(hK:X.K=K)(hu:X.A.units+1<cLine):gX X (compareOp .NotIn) (Bb K true):=by
 subst hK;intro pins s σ H x y v u Q I rx ry h;obtain⟨a,ps,p,vs,rfl,⟨q,x1,x2,rfl,t1,q1,q2⟩,hl,lr,hq⟩:=h;cases q1;cases q2;cases rx;cases ry;obtain⟨its,r,pl,hz⟩:=I.list hl;obtain⟨g1,g2⟩:=qJ hu I t1 lr r;refine L1 (zN X.K H a) pl.isList (fun w hw=>g2 w (by simpa using hw)) ⟨.bl _,H,I,rfl,?_⟩;rw[show its.toArray.any (zN X.K H a)=its.any (zN X.K H a) by simp,g1];exact hq
def Bd(prog:E4)(w:E8)(K:DJ):R2:=fun x y H Q=>∃G a kvs b k,y=.ref a/\PDa prog w K G H a kvs/\x=.ref b/\SqT K G b [.int k.1,.int k.2]/\Q (.bl<|!(f9 kvs k).isSome) H
theorem sF{X:Cx}{P:E4}{w:E8}{K:DJ}(hP:X.prog=P)(hw:X.w=w)(hK:X.K=K)(hu:X.A.units+1<cLine):gX X (compareOp .NotIn) (Bd P w K):=by
 subst hP hw hK;intro pins s σ H x y v u Q I rx ry h;obtain⟨G,a,kvs,b,k,rfl,g,rfl,hb,hq⟩:=h;cases rx;cases ry;obtain⟨xs,rel,dd,hx⟩:=g.h I;obtain⟨ob,eG,ha,lo,_,_⟩:=g;refine wpAny_notIn_heap (HV hu) (dM I<|Fm eG hb) lo dd ⟨.bl _,H,I.tok _,rfl,?_⟩;have:=rel.val k;have e:(atKey xs<|iC k).isSome=(f9 kvs k).isSome:=by
  cases h1:atKey xs (iC k)with
  |none=>
   rw[h1]at this;cases h2:f9 kvs k with
   |none=>rfl
   |some z=>rw[h2]at this;exact this.elim
  |some z'=>
   rw[h1]at this;cases h2:f9 kvs k with
   |none=>rw[h2]at this;exact this.elim
   |some z=>rfl
 rw[e];exact hq
end L2
namespace Wb
open PySem L2 Mi
section
variable{Er:Nat->Prop}{α:Type}{P:E4}{w:E8}{K:DJ}{W:Wd}{σ:St}{t ta tb:TE}{R:Rp α}
theorem zP{ma:Res (List α)}(ha:EV Er ta σ W (pk R) ma):EV Er (gV Ba ta<|tG bV) σ W (sh isB) (ma.bind fun a=>.ok<|!a.isEmpty):=fun W1 e1 Q k=>
 ha W1 e1 _ ((DE k).imp fun a ka x W2 e2 hx=>by
  obtain⟨p,vs,rfl,h1,h2⟩:=hx;refine⟨by decide,fun q hq=>⟨p,q,vs,rfl,rfl,?_,aI,?_⟩⟩;·rw[aD (fun z=>by rw[z]at h1;rw[hq]at h1;cases h1)];exact h1
  ·have:vs.isEmpty=a.isEmpty:=by
    have:=h2.1;cases vs<;>cases a<;>simp at this ⊢
   rw[this];exact ka (.bl (!a.isEmpty)) (W2.mut q (.lst []) (W2.gnone hq)) (e2.trans (.own _ hq)) rfl)
theorem LR.up{ps:List α}{vs:List V}{H H':Hp}[Mono R](h:LR R H ps vs)(e:Same H H'):LR R H' ps vs:=⟨h.1,fun i v m a b=>DD e<|h.2 i v m a b⟩
theorem ph{ma:Res (Int×Int)}{mb:Res (List<|Int×Int)}(ha:EV Er ta σ W (sh<|isT2 K isI isI) ma)(hb:EV Er tb σ W (pk<|isT2 K isI isI) mb):EV Er (gV (Bb K true) ta tb) σ W (sh isB) (ma.bind fun a=>mb.bind fun b=>.ok<|!b.contains a):=fun W1 e1 Q k=>
 ha W1 e1 _ ((DE k).imp fun a ka x W2 e2 hx=>hb W2 (e1.trans e2) _ ((DE ka).imp fun b kb y W3 e3 hy=>by
  obtain⟨p,vs,rfl,h1,h2⟩:=hy;exact⟨a,b,p,vs,rfl,DD W3.ok (DD (R:=isT2 K isI isI) e3.g hx),Gk h1,h2.up W3.ok,kb _ W3 (e2.trans e3) rfl⟩))
theorem sG{H:Hp}{vs:List ((Int×Int)×V)}{kvs:List ((Int×Int)×α)}(h1:vs.length=kvs.length)(h2:∀(i:Nat)(q:(Int×Int)×V)(x:(Int×Int)×α),vs[i]? =some q->kvs[i]? =some x->q.1=x.1/\R H x.2 q.2)(k:Int×Int):(f9 vs k).isSome=(look kvs k).isSome:=by
 have lr:=iq vs kvs h1 h2 k;cases q:look kvs k with
 |none=>rw[q]at lr;rw[show f9 vs k=none from lr];rfl
 |some a=>
  rw[q]at lr;obtain⟨v,hv,_⟩:=lr;rw[hv];rfl
theorem sH[Mono R]{ma:Res (Int×Int)}{i:Nat}{p:Addr}{xs:List ((Int×Int)×α)}(o:OwP P w K R W p xs)(ha:EV Er ta σ W (sh<|isT2 K isI isI) ma)(hi:σ[i]? =some (some<|.ref p):=by rfl):EV Er (gV (Bd P w K) ta<|gW i) σ W (sh isB) (ma.bind fun a=>.ok<|!(look xs a).isSome):=fun W1 e1 Q k=>
 ha W1 e1 _ ((DE k).imp fun a ka x W2 e2 hx=>by
  obtain⟨vs,g,l,h⟩:=(o.mono (e1.trans e2)).pd;obtain⟨q,x1,x2,rfl,t1,r1,r2⟩:=hx;cases r1;cases r2;refine⟨_,hi,W2.G,p,vs,q,a,rfl,g,rfl,t1,?_⟩;rw[sG l h];exact ka _ W2 e2 rfl)
theorem vA{β:Type}{R2:Rp β}{ma:Res (α×β)}(ha:EV Er ta σ W (sh<|isT2 K R R2) ma):EV Er (mS (fun xs H Q=>∃x n,xs=[x]/\oB K x H n/\Q (.int n) H)<|aL ta bV) σ W (sh isI) (ma.bind fun _=>.ok (2:Int)):=fun W1 e1 Q k=>
 ha W1 e1 _ ((DE k).imp fun a ka x W2 e2 hx=>by
  obtain⟨p,x,y,rfl,h,_⟩:=hx;exact⟨_,2,rfl,.inr ⟨_,Fm W2.ok h,rfl⟩,ka _ W2 e2 rfl⟩)
theorem xq[Mono R]{m:Res (α×α)}(h:EV Er t σ W (sh<|isT2 K R R) m):IV Er (yY K t) σ W R (m.bind fun x=>.ok [x.1,x.2]):=fun W1 e1 P k=>
 h W1 e1 _ ((DE k).imp fun xs kx v W2 e2 hv=>by
  obtain⟨p,x1,x2,rfl,h1,r1,r2⟩:=hv;have sq:∀W3:Wd,Same W2.G W3.G->SqT K W3.H p [x1,x2]:=fun W3 e3=>Fm W3.ok<|Fm e3 h1;refine⟨p,rfl,⟨_,Fm W2.ok h1⟩,kx _ W2 e2 fun W3 e3=>⟨fun i a ha=>?_,[x1,x2],sq W3 e3,DQ _⟩⟩;obtain⟨x,hx,hr⟩:∃x,[x1,x2][i]? =some x/\R W3.G a x:=by
   match i,ha with
   |0,ha=>cases ha;exact⟨x1,rfl,DD e3 r1⟩
   |1,ha=>cases ha;exact⟨x2,rfl,DD e3 r2⟩
  refine⟨⟨_,x,sq W3 e3,hx⟩,fun y H'⟨z1,z2⟩=>⟨W3,z1.symm,.refl _,?_⟩⟩;have:=z2 _ (sq W3 e3);rw[hx]at this;cases this;exact hr)
end
end Wb
namespace Mi
noncomputable section
@[irreducible]noncomputable def Bz(Z0n:List Int)(l_k:Int):Res Int:=if(decide<|l_k<(Z0n.length:Int))then fc Z0n l_k else(jb ((l_k*48271)+(11:Int))<|(Z0n.length:Int)+(7:Int)).bind fun y8=>DK<|y8%1000003
def gT(Z0n:List Int)(l_k:Int):Res Int:=Bz Z0n l_k
@[irreducible]noncomputable def A7(Z05:Int)(Z1n:Int)(a19:Int)(s20:(Int×Int×(List Int))):Res (Int×Int×(List Int)):=((if(decide<|(1000000000000000000:Int)<=cP Z05)then DK (decide<|(0:Int)<s20.2.1)else DK false).bind fun y45=>(if y45 then((jH s20.2.1 Z1n).bind fun y56=>fW s20.2.2 y56).bind fun y55=>(jG s20.2.1 Z1n).bind fun y59=>DK (y59,y55)else((((jb ((((s20.1*48271)+(7919:Int))+a19)%2147483647)<|(((s20.1*48271)+(7919:Int))+a19)%2147483647).bind fun y63=>DK<|y63%1000003).bind fun y64=>jH y64 Z1n).bind fun y69=>fW s20.2.2 y69).bind fun y68=>DK (s20.2.1,y68):Res (Int×(List Int)))).bind fun s70=>DK (((((s20.1*48271)+(7919:Int))+a19)%2147483647),s70.1,s70.2)
@[irreducible]noncomputable def BA(Z05:Int)(Z0y:Int)(Z1n:Int):Res (List Int):=((fX Z0y).bind fun y78=>bB (A7 Z05 Z1n) y78 (((cP Z05)%2147483647),cP Z05,([]:List Int))).bind fun s79=>DK s79.2.2
def gz(Z05:Int)(Z0y:Int)(Z1n:Int):Res (List Int):=BA Z05 Z0y Z1n
@[irreducible]noncomputable def A8(y3:Int)(y8:List Int)(a15:Int)(s16:Tx):Res Tx:=(((((fc y8 (4:Int)).bind fun y39=>((jH a15 y3).bind fun y38=>DK<|y38*7).bind fun y40=>DK<|y39+y40).bind fun y41=>DK<|y41%26).bind fun y42=>eR ([97,98,99,100,101,102,103,104,105,106,107,108,109,110,111,112,113,114,115,116,117,118,119,120,121,122]:Tx) y42).bind fun y43=>jc s16 y43).bind fun y44=>DK y44
@[irreducible]noncomputable def BB(gz:Int->Int->Int->Res (List Int))(Z05:Int):Res Tx:=(fc [(1:Int),(2:Int),(3:Int),(4:Int),(26:Int)]<|Z05%5).bind fun y3=>(gz (Z05/5) (5:Int) (26:Int)).bind fun y8=>(bB (A8 y3 y8) (cut y8 none<|some (4:Int)) ([]:Tx)).bind fun s47=>DK s47
def xr(Z05:Int):Res Tx:=BB gz Z05
@[irreducible]noncomputable def BC(xr:Int->Res Tx)(Z05:Int):Res Cd:=(eR ([83,90]:Tx)<|Z05%2).bind fun y1=>(xr<|Z05/8).bind fun y2=>DK (y1,y2,((Z05/2)%4))
def wc(Z05:Int):Res Cd:=BC xr Z05
@[irreducible]noncomputable def BD(gz:Int->Int->Int->Res (List Int))(Z05:Int)(Z0y:Int):Res Tx:=if(decide<|(Z05%7)=(3:Int))then(eR ([102,98,105]:Tx)<|(Z05/7)%3).bind fun y3=>zq y3 Z0y else((gz (Z05/7) Z0y (3:Int)).bind fun y18=>dv y18<|fun(a9:Int)=>eR ([102,98,105]:Tx) a9).bind fun y19=>nc y19
def xt(Z05:Int)(Z0y:Int):Res Tx:=BD gz Z05 Z0y
@[irreducible]noncomputable def BE(Z0W:Tx):Res Int:=(jd ([98,105,102]:Tx) Z0W).bind fun y1=>DK<|y1-(1:Int)
def oj(Z0W:Tx):Res Int:=BE Z0W
@[irreducible]noncomputable def BF(oj:Tx->Res Int)(Z01:Cd)(Z0W:Tx):Res Cd:=(((oj Z0W).bind fun y1=>DK<|Z01.2.2+y1).bind fun y2=>DK<|y2%4).bind fun y3=>DK (Z01.1,Z01.2.1,y3)
def jr(Z01:Cd)(Z0W:Tx):Res Cd:=BF oj Z01 Z0W
@[irreducible]noncomputable def BG(oj:Tx->Res Int)(Z01:Cd)(Z0W:Tx):Res Int:=if(decide<|Z01.1=([83]:Tx))then oj Z0W else(oj Z0W).bind fun y8=>DK<|(0:Int)-y8
def fL(Z01:Cd)(Z0W:Tx):Res Int:=BG oj Z01 Z0W
@[irreducible]noncomputable def A9(jr:Cd->Tx->Res Cd)(fL:Cd->Tx->Res Int)(a7:Tx)(s8:(Cd×(List Pl))):Res (Cd×(List Pl)):=(jr s8.1 a7).bind fun y34=>(((fL y34 a7).bind fun y39=>DK<|y39+(1:Int)).bind fun y40=>eR ([122,111,115]:Tx) y40).bind fun y41=>(((eR y34.2.1 y34.2.2).bind fun y44=>(eR y34.2.1<|(y34.2.2+(2:Int))%4).bind fun y45=>DK (y44,y45,y41)).bind fun y50=>fW s8.2 y50).bind fun y49=>DK (y34,y49)
@[irreducible]noncomputable def BH(jr:Cd->Tx->Res Cd)(fL:Cd->Tx->Res Int)(Z01:Cd)(Z0c:Tx):Res (List Pl):=(bB (A9 jr fL) (bq Z0c) (Z01,([]:List Pl))).bind fun s51=>DK s51.2
def pj(Z01:Cd)(Z0c:Tx):Res (List Pl):=BH jr fL Z01 Z0c
@[irreducible]noncomputable def Aa(a16:Pl×Int)(s17:(Int×(List Pl))):Res (Int×(List Pl)):=((if(decide<|a16.2=(5:Int))then DK (decide<|s17.1<(6:Int))else DK false).bind fun y45=>(if y45 then DK ((s17.1+(1:Int)),(([63]:Tx),a16.1.2.1,([63]:Tx)))else DK (s17.1,a16.1):Res (Int×Pl))).bind fun s61=>(fW s17.2 s61.2).bind fun y74=>DK (s61.1,y74)
@[irreducible]noncomputable def BI(gz:Int->Int->Int->Res (List Int))(Z0t:List Pl)(Z05:Int):Res (List Pl):=(gz (Z05/3) (Z0t.length:Int) (11:Int)).bind fun y13=>(bB Aa (Z0t.zip y13) ((0:Int),([]:List Pl))).bind fun s75=>(if(decide<|(Z05%3)=(2:Int))then(jH (Z05/3) (Z0t.length:Int)).bind fun y87=>((((fc s75.2 y87).bind fun y90=>DK y90.1).bind fun y92=>((fc s75.2 y87).bind fun y91=>DK y91.2.1).bind fun y93=>(eR ([115,122,111]:Tx)<|(Z05/7)%3).bind fun y94=>DK (y92,y93,y94)).bind fun y98=>hV s75.2 y87 y98).bind fun y99=>DK y99 else DK s75.2:Res (List Pl)).bind fun s101=>DK s101
def xu(Z0t:List Pl)(Z05:Int):Res (List Pl):=BI gz Z0t Z05
@[irreducible]noncomputable def Ab(Z05:Int)(a14:Pl×Int)(s15:(List Pl)):Res (List Pl):=(if(decide<|(Z05%5)=(0:Int))then DK ((a14.2/8)*8)else DK a14.2:Res Int).bind fun s56=>(if(decide<|(Z05%5)=(1:Int))then DK (((s56/8)*8)+(7:Int))else DK s56:Res Int).bind fun s75=>((if(decide<|(56:Int)<=s75)then DK (decide<|(s75%3)<(2:Int))else DK false).bind fun y90=>(if y90 then(((((fc [a14.1.1,a14.1.2.1,a14.1.2.2]<|s75%3).bind fun y101=>jd ([97,98,99,100,101,102,103,104,105,106,107,108,109,110,111,112,113,114,115,116,117,118,119,120,121,122,97]:Tx) y101).bind fun y102=>DK<|y102+(1:Int)).bind fun y103=>eR ([97,98,99,100,101,102,103,104,105,106,107,108,109,110,111,112,113,114,115,116,117,118,119,120,121,122,97]:Tx) y103).bind fun y107=>hV [a14.1.1,a14.1.2.1,a14.1.2.2] (s75%3) y107).bind fun y108=>DK y108 else DK [a14.1.1,a14.1.2.1,a14.1.2.2]:Res (List Tx))).bind fun s110=>((if(decide<|(56:Int)<=s75)then DK (decide<|(s75%3)=(2:Int))else DK false).bind fun y120=>(if y120 then((((fc s110 (2:Int)).bind fun y127=>jd ([115,122,111]:Tx) y127).bind fun y128=>eR ([122,111,115]:Tx) y128).bind fun y132=>hV s110 (2:Int) y132).bind fun y133=>DK y133 else DK s110:Res (List Tx))).bind fun s135=>(((dv (s135.zip [(1:Int),(2:Int),(4:Int)]) (fun(a149:Tx×Int)=>(((jG s75 a149.2).bind fun y158=>DK<|y158%2).bind fun y159=>DK<|decide<|y159=(1:Int)).bind fun y160=>if y160 then DK a149.1 else DK ([63]:Tx))).bind fun y163=>u9 y163).bind fun y168=>fW s15 y168).bind fun y167=>DK y167
@[irreducible]noncomputable def BJ(gz:Int->Int->Int->Res (List Int))(Z0t:List Pl)(Z05:Int)(Z1z:Bool):Res (List Pl):=(((jb (8:Int) (if Z1z then(1:Int)else 0)).bind fun y9=>DK<|(56:Int)+y9).bind fun y10=>gz (Z05/5) (Z0t.length:Int) y10).bind fun y11=>(bB (Ab Z05) (Z0t.zip y11) ([]:List Pl)).bind fun s169=>DK s169
def xv(Z0t:List Pl)(Z05:Int)(Z1z:Bool):Res (List Pl):=BJ gz Z0t Z05 Z1z
@[irreducible]noncomputable def BK(Z01:Cd):Res Cd:=((jd ([83,90]:Tx) Z01.1).bind fun y5=>eR ([90,83]:Tx) y5).bind fun y12=>((((eR Z01.2.1 (0:Int)).bind fun y6=>(eR Z01.2.1 (3:Int)).bind fun y7=>jc y6 y7).bind fun y8=>(eR Z01.2.1 (2:Int)).bind fun y9=>jc y8 y9).bind fun y10=>(eR Z01.2.1 (1:Int)).bind fun y11=>jc y10 y11).bind fun y13=>DK (y12,y13,(((0:Int)-Z01.2.2)%4))
def xw(Z01:Cd):Res Cd:=BK Z01
@[irreducible]noncomputable def BL(Z0c:Tx):Res Tx:=(dv (bq Z0c)<|fun(a1:Tx)=>(jd ([98,105,102]:Tx) a1).bind fun y8=>eR ([102,105,98]:Tx) y8).bind fun y11=>nc y11
def xx(Z0c:Tx):Res Tx:=BL Z0c
@[irreducible]noncomputable def BM(Z01:Cd)(Z0y:Int):Res Cd:=(((fX (4:Int)).bind fun y13=>dv y13<|fun(a3:Int)=>eR Z01.2.1<|(a3-Z0y)%4).bind fun y14=>nc y14).bind fun y15=>DK (Z01.1,y15,((Z01.2.2+Z0y)%4))
def xA(Z01:Cd)(Z0y:Int):Res Cd:=BM Z01 Z0y
@[irreducible]noncomputable def Ac(a37:Int)(s38:(List Int)):Res (List Int):=(if(!s38.contains a37)then(fW s38 a37).bind fun y68=>DK y68 else DK s38:Res (List Int)).bind fun s70=>DK s70
@[irreducible]noncomputable def Be(jr:Cd->Tx->Res Cd)(a7:Tx)(s8:(Cd×(List Int))):Res (Cd×(List Int)):=(jr s8.1 a7).bind fun y34=>(bB Ac [y34.2.2,((y34.2.2+(2:Int))%4)] s8.2).bind fun s78=>DK (y34,s78)
@[irreducible]noncomputable def BN(jr:Cd->Tx->Res Cd)(Z01:Cd)(Z0c:Tx):Res (List Int):=(bB (Be jr) (bq Z0c) (Z01,([]:List Int))).bind fun s82=>u7 s82.2
def xB(Z01:Cd)(Z0c:Tx):Res (List Int):=BN jr Z01 Z0c
@[irreducible]noncomputable def Ad(Z05:Int)(y40:List Int)(a43:Int)(s44:Cd):Res Cd:=(if(!y40.contains a43)then((((jb (5:Int) a43).bind fun y75=>DK<|(Z05/16)+y75).bind fun y76=>DK<|y76%26).bind fun y77=>eR ([97,98,99,100,101,102,103,104,105,106,107,108,109,110,111,112,113,114,115,116,117,118,119,120,121,122]:Tx) y77).bind fun y78=>((((rD s44.2.1 none<|some a43).bind fun y83=>jc y83 y78).bind fun y84=>(rD s44.2.1 (some<|a43+(1:Int)) none).bind fun y85=>jc y84 y85).bind fun y86=>DK (s44.1,y86,s44.2.2)).bind fun y87=>DK y87 else DK s44:Res Cd).bind fun s91=>DK s91
@[irreducible]noncomputable def BO(xw:Cd->Res Cd)(xx:Tx->Res Tx)(xA:Cd->Int->Res Cd)(xB:Cd->Tx->Res (List Int))(Z01:Cd)(Z0c:Tx)(Z05:Int):Res (Cd×Tx):=(if(decide<|(Z05%2)=(1:Int))then(xw Z01).bind fun y9=>(xx Z0c).bind fun y14=>DK (y9,y14)else DK (Z01,Z0c):Res (Cd×Tx)).bind fun s18=>(xA s18.1<|(Z05/2)%4).bind fun y29=>(if(decide<|((Z05/8)%2)=(1:Int))then(xB y29 s18.2).bind fun y40=>((fX (4:Int)).bind fun y101=>bB (Ad Z05 y40) y101 y29).bind fun s102=>DK s102 else DK y29:Res Cd).bind fun s107=>DK (s107,s18.2)
def xC(Z01:Cd)(Z0c:Tx)(Z05:Int):Res (Cd×Tx):=BO xw xx xA xB Z01 Z0c Z05
@[irreducible]noncomputable def BP(wc:Int->Res Cd)(gT:List Int->Int->Res Int)(xt:Int->Int->Res Tx)(pj:Cd->Tx->Res (List Pl))(xu:(List Pl)->Int->Res (List Pl))(xv:(List Pl)->Int->Bool->Res (List Pl))(xC:Cd->Tx->Int->Res (Cd×Tx))(Z0n:List Int)(Z1N:Int):Res (Cd×(List Pl)×Int):=((gT Z0n (0:Int)).bind fun y3=>wc y3).bind fun y4=>(gT Z0n (2:Int)).bind fun y9=>(gT Z0n (3:Int)).bind fun y14=>(jH y9<|Z1N+(1:Int)).bind fun y19=>(if(decide<|((y9/13)%6)=(1:Int))then DK ((25:Int)+((y9/78)%36))else DK y19:Res Int).bind fun s33=>(if(decide<|((y9/13)%6)=(3:Int))then DK ((13:Int)+((y9/78)%12))else DK s33:Res Int).bind fun s51=>((gT Z0n (1:Int)).bind fun y60=>xt y60 s51).bind fun y61=>(pj y4 y61).bind fun y66=>(if(decide<|Z1N<s51)then(xu y66 y14).bind fun y77=>DK y77 else(xv y66 (y14/3)<|decide<|(y14%3)=(2:Int)).bind fun y83=>DK y83:Res (List Pl)).bind fun s86=>((gT Z0n (4:Int)).bind fun y97=>DK<|y97/4).bind fun y98=>(if(decide<|(y98%6)=(1:Int))then((xC y4 y61<|y98/6).bind fun y109=>DK y109.1).bind fun y110=>DK y110 else DK y4:Res Cd).bind fun s114=>(if(decide<|(y98%6)=(2:Int))then(wc<|y98/6).bind fun y131=>DK y131 else DK s114:Res Cd).bind fun s135=>((gT Z0n (4:Int)).bind fun y144=>DK<|y144%4).bind fun y145=>DK (s135,s86,y145)
def wd(Z0n:List Int)(Z1N:Int):Res (Cd×(List Pl)×Int):=BP wc gT xt pj xu xv xC Z0n Z1N
@[irreducible]noncomputable def BQ(gz:Int->Int->Int->Res (List Int))(Z0o:List Pl)(Z05:Int):Res (List Pl):=(if(decide<|(Z0o.length:Int)<(13:Int))then DK true else DK (!decide ((Z05%8)=(3:Int)))).bind fun y1=>if y1 then DK Z0o else(gz (Z05/8) (Z0o.length:Int) (5:Int)).bind fun y10=>dv (Z0o.zip y10) (fun(a17:Pl×Int)=>if(decide<|(1:Int)<a17.2)then DK (([63]:Tx),([63]:Tx),([63]:Tx))else DK a17.1)
def xD(Z0o:List Pl)(Z05:Int):Res (List Pl):=BQ gz Z0o Z05
@[irreducible]noncomputable def BR(state:Ii)(loose:Int)(bound:Int):Res Bool:=if(decide<|cP state.1<=bound)then DK (decide<|state.2<=loose)else DK false
def nU(state:Ii)(loose:Int)(bound:Int):Res Bool:=BR state loose bound
@[irreducible]noncomputable def BS(tablet:Cd)(turn:Tx):Res Int:=(getD ([([102],1),([98],(-1)),([105],0)]:List (Tx×Int)) turn).bind fun y3=>if(decide<|tablet.1=([83]:Tx))then DK y3 else DK (-y3)
def pq(tablet:Cd)(turn:Tx):Res Int:=BS tablet turn
@[irreducible]noncomputable def BU(pq:Cd->Tx->Res Int)(tablet:Cd)(state:Ii)(turn:Tx):Res Ii:=((pq tablet turn).bind fun y9=>DK<|state.1+y9).bind fun y10=>(if(decide<|turn=([105]:Tx))then DK (state.2+(1:Int))else DK (0:Int)).bind fun y11=>DK (y10,y11)
def we(tablet:Cd)(state:Ii)(turn:Tx):Res Ii:=BU pq tablet state turn
@[irreducible]noncomputable def BW(tablet:Cd)(twist:Int):Res Cd:=((if(decide<|tablet.1=([83]:Tx))then DK (tablet.2.2+twist)else DK (tablet.2.2-twist)).bind fun y11=>DK<|y11%4).bind fun y12=>DK (tablet.1,tablet.2.1,y12)
def xE(tablet:Cd)(twist:Int):Res Cd:=BW tablet twist
@[irreducible]noncomputable def qK(tablet:Cd):Res Tx:=eR tablet.2.1<|tablet.2.2%4
def iu(tablet:Cd):Res Tx:=qK tablet
@[irreducible]noncomputable def BX(tablet:Cd):Res Tx:=eR tablet.2.1<|(tablet.2.2+(2:Int))%4
def xF(tablet:Cd):Res Tx:=BX tablet
@[irreducible]noncomputable def BY(iu:Cd->Res Tx)(xF:Cd->Res Tx)(pq:Cd->Tx->Res Int)(tablet:Cd)(turn:Tx):Res Pl:=(iu tablet).bind fun y2=>(xF tablet).bind fun y3=>((pq tablet turn).bind fun y1=>getD ([(1,[115]),((-1),[122]),(0,[111])]:List (Int×Tx)) y1).bind fun y4=>DK (y2,y3,y4)
def xG(tablet:Cd)(turn:Tx):Res Pl:=BY iu xF pq tablet turn
@[irreducible]noncomputable def BZ(sign:Tx)(left:Tx):Res Bool:=if(decide<|left=([63]:Tx))then DK true else DK (decide<|left=sign)
def wg(sign:Tx)(left:Tx):Res Bool:=BZ sign left
@[irreducible]noncomputable def C0(wg:Tx->Tx->Res Bool)(place:Pl)(mark:Pl):Res Bool:=(dv ([place.1,place.2.1,place.2.2].zip [mark.1,mark.2.1,mark.2.2])<|fun(a1:Tx×Tx)=>wg a1.1 a1.2).bind fun y12=>DK<|y12.all id
def xH(place:Pl)(mark:Pl):Res Bool:=C0 wg place mark
@[irreducible]noncomputable def C1(xH:Pl->Pl->Res Bool)(xG:Cd->Tx->Res Pl)(xE:Cd->Int->Res Cd)(tablet:Cd)(state:Ii)(turn:Tx)(mark:Pl):Res Bool:=((xE tablet state.1).bind fun y1=>xG y1 turn).bind fun y2=>xH y2 mark
def vB(tablet:Cd)(state:Ii)(turn:Tx)(mark:Pl):Res Bool:=C1 xH xG xE tablet state turn mark
@[irreducible]noncomputable def C2(we:Cd->Ii->Tx->Res Ii)(nU:Ii->Int->Int->Res Bool)(vB:Cd->Ii->Tx->Pl->Res Bool)(tablet:Cd)(mark:Pl)(loose:Int)(bound:Int)(state:Ii):Res (List<|Tx×Ii):=(dv (bq ([102,98,105]:Tx))<|fun(a3:Tx)=>(we tablet state a3).bind fun y12=>DK (a3,y12)).bind fun y15=>q9 y15 (fun(a18:Tx×Ii)=>((nU a18.2 loose bound).bind fun y31=>if y31 then vB tablet a18.2 a18.1 mark else DK false).bind fun y33=>if y33 then DK (some (a18.1,a18.2))else DK none)
def gA(tablet:Cd)(mark:Pl)(loose:Int)(bound:Int)(state:Ii):Res (List<|Tx×Ii):=C2 we nU vB tablet mark loose bound state
@[irreducible]noncomputable def C3(gA:Cd->Pl->Int->Int->Ii->Res (List<|Tx×Ii))(tablet:Cd)(mark:Pl)(loose:Int)(bound:Int)(states:List Ii):Res (List Ii):=(bB (fun(a6:Ii)(s8:List Ii)=>(gA tablet mark loose bound a6).bind fun y36=>bB (fun(a20:Tx×Ii)(s22:List Ii)=>rS s22 a20.2) y36 s8) states ([]:List Ii)).bind fun k37=>uC k37
def pA(tablet:Cd)(mark:Pl)(loose:Int)(bound:Int)(states:List Ii):Res (List Ii):=C3 gA tablet mark loose bound states
@[irreducible]noncomputable def yD(pA:Cd->Pl->Int->Int->(List Ii)->Res (List Ii))(tablet:Cd)(loose:Int)(bound:Int)(a10:Pl)(s11:(List<|List Ii)):Res (Fl (List<|List Ii)<|List<|List Ii):=((fc s11<|-(1:Int)).bind fun y32=>DK y32.isEmpty).bind fun y33=>if y33 then DK (.rt s11)else(((fc s11<|-(1:Int)).bind fun y36=>pA tablet a10 loose bound y36).bind fun y41=>fW s11 y41).bind fun y40=>DK<|.nx y40
@[irreducible]noncomputable def C4(nU:Ii->Int->Int->Res Bool)(pA:Cd->Pl->Int->Int->(List Ii)->Res (List Ii))(tablet:Cd)(strip:List Pl)(loose:Int)(bound:Int):Res (List<|List Ii):=(((nU (0,0) loose bound).bind fun y3=>if y3 then DK [(0,0)]else DK ([]:List Ii)).bind fun y4=>DK [y4]).bind fun y5=>(cQ (yD pA tablet loose bound) strip y5).bind (fun | .nx s42=>(DK s42)| .rt r=>DK r| .bk _=>GZ)
def iD(tablet:Cd)(strip:List Pl)(loose:Int)(bound:Int):Res (List<|List Ii):=C4 nU pA tablet strip loose bound
@[irreducible]noncomputable def Bf(iD:Cd->(List Pl)->Int->Int->Res (List<|List Ii))(tablet:Cd)(strip:List Pl)(loose:Int)(s15:Int):Res Bool:=((iD tablet strip loose s15).bind fun y27=>fc y27<|-(1:Int)).bind fun y28=>DK y28.isEmpty
@[irreducible]noncomputable def Bg(s15:Int):Res Int:=DK<|s15+(1:Int)
@[irreducible]noncomputable def C5(iD:Cd->(List Pl)->Int->Int->Res (List<|List Ii))(tablet:Cd)(strip:List Pl)(loose:Int):Res (Option Int):=(((iD tablet strip loose (strip.length:Int)).bind fun y1=>fc y1<|-(1:Int)).bind fun y2=>DK y2.isEmpty).bind fun y3=>if y3 then DK (none:Option Int)else(eD (Bf iD tablet strip loose) Bg cap (0:Int)).bind fun s31=>DK<|some s31
def wj(tablet:Cd)(strip:List Pl)(loose:Int):Res (Option Int):=C5 iD tablet strip loose
@[irreducible]noncomputable def Ae(gA:Cd->Pl->Int->Int->Ii->Res (List<|Tx×Ii))(tablet:Cd)(strip:List Pl)(loose:Int)(bound:Int)(y3:List (List Ii))(a31:Int)(s32:(List<|List<|Ii×Int)):Res (List<|List<|Ii×Int):=(fc s32<|-(1:Int)).bind fun y57=>((fc y3 a31).bind fun y82=>bB (fun(a67:Ii)(s69:List (Ii×(List<|Tx×Ii)))=>((fc strip a31).bind fun y80=>gA tablet y80 loose bound a67).bind fun y81=>fv s69 a67 y81) y82 ([]:List (Ii×(List<|Tx×Ii)))).bind fun y83=>((bB (fun(a91:Ii)(s93:List (Ii×Int))=>(((getD y83 a91).bind fun y116=>dv y116<|fun(a104:Tx×Ii)=>getD y57 a104.2).bind fun y117=>DK y117.sum).bind fun y118=>fv s93 a91 y118) (y83.map (·.1)) ([]:List (Ii×Int))).bind fun y123=>fW s32 y123).bind fun y122=>DK y122
@[irreducible]noncomputable def C6(iD:Cd->(List Pl)->Int->Int->Res (List<|List Ii))(gA:Cd->Pl->Int->Int->Ii->Res (List<|Tx×Ii))(tablet:Cd)(strip:List Pl)(loose:Int)(bound:Int):Res (List<|List<|Ii×Int):=(iD tablet strip loose bound).bind fun y3=>(((fc y3<|-(1:Int)).bind fun y24=>bB (fun(a13:Ii)(s15:List (Ii×Int))=>fv s15 a13 (1:Int)) y24 ([]:List (Ii×Int))).bind fun y25=>DK [y25]).bind fun y26=>((mw<|(y3.length:Int)-(1:Int)).bind fun y124=>bB (Ae gA tablet strip loose bound y3) y124 y26).bind fun s125=>DK s125.reverse
def xI(tablet:Cd)(strip:List Pl)(loose:Int)(bound:Int):Res (List<|List<|Ii×Int):=C6 iD gA tablet strip loose bound
@[irreducible]noncomputable def Af(moves:List (Tx×Ii))(counts:List (Ii×Int))(s6:Ii):Res Bool:=(((fc moves s6.2).bind fun y18=>DK y18.2).bind fun y19=>getD counts y19).bind fun y20=>DK<|decide<|y20<=s6.1
@[irreducible]noncomputable def Ag(moves:List (Tx×Ii))(counts:List (Ii×Int))(s6:Ii):Res Ii:=(((fc moves s6.2).bind fun y21=>DK y21.2).bind fun y22=>getD counts y22).bind fun y23=>DK ((s6.1-y23),(s6.2+(1:Int)))
@[irreducible]noncomputable def C7(moves:List (Tx×Ii))(counts:List (Ii×Int))(number:Int):Res (Tx×Ii×Int):=(eD (Af moves counts) (Ag moves counts) cap (number,(0:Int))).bind fun s28=>(fc moves s28.2).bind fun y32=>DK (y32.1,y32.2,s28.1)
def pD(moves:List (Tx×Ii))(counts:List (Ii×Int))(number:Int):Res (Tx×Ii×Int):=C7 moves counts number
@[irreducible]noncomputable def eF(pD:(List<|Tx×Ii)->(List<|Ii×Int)->Int->Res (Tx×Ii×Int))(gA:Cd->Pl->Int->Int->Ii->Res (List<|Tx×Ii))(tablet:Cd)(loose:Int)(bound:Int)(y3:List (List<|Ii×Int))(a19:Int×Pl)(s20:(Ii×Int×Tx)):Res (Ii×Int×Tx):=((gA tablet a19.2 loose bound s20.1).bind fun y50=>(fc y3<|a19.1+(1:Int)).bind fun y51=>pD y50 y51 s20.2.1).bind fun y52=>(jc s20.2.2 y52.1).bind fun y65=>DK (y52.2.1,y52.2.2,y65)
@[irreducible]noncomputable def qL(xI:Cd->(List Pl)->Int->Int->Res (List<|List<|Ii×Int))(pD:(List<|Tx×Ii)->(List<|Ii×Int)->Int->Res (Tx×Ii×Int))(gA:Cd->Pl->Int->Int->Ii->Res (List<|Tx×Ii))(tablet:Cd)(strip:List Pl)(loose:Int)(bound:Int)(number:Int):Res Tx:=(xI tablet strip loose bound).bind fun y3=>(if(decide<|number<(0:Int))then DK true else((fc y3 (0:Int)).bind fun y6=>DK<|sx y6 (0,0) (0:Int)).bind fun y7=>DK<|decide<|y7<=number).bind fun y8=>if y8 then GZ else(bB (eF pD gA tablet loose bound y3) (gJ strip) ((0,0),number,([]:Tx))).bind fun s66=>DK s66.2.2
def gL(tablet:Cd)(strip:List Pl)(loose:Int)(bound:Int)(number:Int):Res Tx:=qL xI pD gA tablet strip loose bound number
@[irreducible]noncomputable def C8(wj:Cd->(List Pl)->Int->Res (Option Int))(iD:Cd->(List Pl)->Int->Int->Res (List<|List Ii))(gL:Cd->(List Pl)->Int->Int->Int->Res Tx)(tablet:Cd)(strip:List Pl)(loose:Int):Res ((Option Int)×(Option Tx)×(List<|List Ii)):=(wj tablet strip loose).bind fun y3=>if y3.isNone then(iD tablet strip loose (strip.length:Int)).bind fun y8=>DK ((none:Option Int),(none:Option Tx),y8)else(((lQ y3).bind fun y16=>DK<|decide<|(0:Int)<y16).bind fun y19=>if y19 then((lQ y3).bind fun y17=>DK<|y17-(1:Int)).bind fun y18=>iD tablet strip loose y18 else DK ([]:List (List Ii))).bind fun y20=>(((lQ y3).bind fun y23=>gL tablet strip loose y23 (0:Int)).bind fun y24=>DK<|some y24).bind fun y25=>DK (y3,y25,y20)
def vC(tablet:Cd)(strip:List Pl)(loose:Int):Res ((Option Int)×(Option Tx)×(List<|List Ii)):=C8 wj iD gL tablet strip loose
@[irreducible]noncomputable def Bh(a65:Int)(s66:Unit):Res (Fl Bool Unit):=(if(!(bT 1<|Fh a65))then DK true else DK (bT 0<|Fh a65)).bind fun y86=>if y86 then DK (.rt false)else DK (.nx ())
@[irreducible]noncomputable def Bi(a36:Ii)(s37:Unit):Res (Fl Bool Unit):=(if(!(bT 4<|Hs [Fh a36.1,Fh a36.2]))then DK true else DK (!decide ((2:Int)=(2:Int)))).bind fun y58=>if y58 then DK (.rt false)else(cQ Bh [a36.1,a36.2] ()).bind (fun | .nx s93=>(DK<|.nx ())| .rt r=>DK (.rt r)| .bk _=>GZ)
@[irreducible]noncomputable def Bj(a7:List Ii)(s8:Unit):Res (Fl Bool Unit):=if(!(bT 3<|(fun(z:List Ii)=>HM<|z.map fun(z:Ii)=>Hs [Fh z.1,Fh z.2]) a7))then DK (.rt false)else(cQ Bi a7 ()).bind (fun | .nx s97=>(DK<|.nx ())| .rt r=>DK (.rt r)| .bk _=>GZ)
@[irreducible]noncomputable def C9(Z0D:List (List Ii)):Res Bool:=if(!(bT 3<|(fun(z:List (List Ii))=>HM<|z.map fun(z:List Ii)=>HM<|z.map fun(z:Ii)=>Hs [Fh z.1,Fh z.2]) Z0D))then DK false else(cQ Bj Z0D ()).bind (fun | .nx s101=>(DK true)| .rt r=>DK r| .bk _=>GZ)
def xJ(Z0D:List (List Ii)):Res Bool:=C9 Z0D
@[irreducible]noncomputable def wk(a83:Tx×Tx)(s84:Bool):Res Bool:=((if(!decide (a83.2=([63]:Tx)))then DK (!decide (a83.2=a83.1))else DK false).bind fun y112=>(if y112 then DK false else DK s84:Res Bool)).bind fun s124=>DK s124
@[irreducible]noncomputable def yE(fL:Cd->Tx->Res Int)(Z01:Cd)(Z21:Pl)(Z0b:Int)(Z0e:Int)(Z0G:Ii)(a7:Tx)(s8:(List Ii)):Res (List Ii):=(fL Z01 a7).bind fun y38=>(jb (Z0G.2+(1:Int)) (if(decide<|a7=([105]:Tx))then(1:Int)else 0)).bind fun y47=>(if(decide<|Z01.1=([90]:Tx))then DK ((Z01.2.2-(Z0G.1+y38))%4)else DK ((Z01.2.2+(Z0G.1+y38))%4):Res Int).bind fun s65=>(if(decide<|cP (Z0G.1+y38)<=Z0e)then DK (decide<|y47<=Z0b)else DK false).bind fun y75=>(((((eR Z01.2.1 s65).bind fun y78=>(eR Z01.2.1<|(s65+(2:Int))%4).bind fun y79=>(eR ([122,111,115]:Tx)<|y38+(1:Int)).bind fun y80=>DK (y78,y79,y80)).bind fun y81=>DK [y81.1,y81.2.1,y81.2.2]).bind fun y82=>DK<|y82.zip [Z21.1,Z21.2.1,Z21.2.2]).bind fun y132=>bB wk y132 y75).bind fun s133=>(if s133 then(fW s8 ((Z0G.1+y38),y47)).bind fun y146=>DK y146 else DK s8:Res (List Ii)).bind fun s148=>DK s148
@[irreducible]noncomputable def Ca(fL:Cd->Tx->Res Int)(Z01:Cd)(Z21:Pl)(Z0b:Int)(Z0e:Int)(Z0G:Ii):Res (List Ii):=(bB (yE fL Z01 Z21 Z0b Z0e Z0G) (bq ([102,98,105]:Tx)) ([]:List Ii)).bind fun s156=>DK s156
def om(Z01:Cd)(Z21:Pl)(Z0b:Int)(Z0e:Int)(Z0G:Ii):Res (List Ii):=Ca fL Z01 Z21 Z0b Z0e Z0G
@[irreducible]noncomputable def Bk(a8:List Ii)(s9:Unit):Res (Fl Bool Unit):=(if(!(bT 3<|(fun(z:List Ii)=>HM<|z.map fun(z:Ii)=>Hs [Fh z.1,Fh z.2]) a8))then DK true else((dv a8<|fun(a29:Ii)=>DK<|bT 4<|Hs [Fh a29.1,Fh a29.2]).bind fun y38=>DK<|y38.all id).bind fun y39=>DK<|!y39).bind fun y40=>if y40 then DK (.rt false)else DK (.nx ())
@[irreducible]noncomputable def Bl(a103:Ii)(s104:(List<|Ii×Bool)):Res (List<|Ii×Bool):=(fv s104 a103 true).bind fun y128=>DK y128
@[irreducible]noncomputable def Cb(s129:(List<|Ii×Bool))(a156:Ii)(s157:Unit):Res (Fl Bool Unit):=if(!(look s129 a156).isSome)then DK (.rt false)else DK (.nx ())
@[irreducible]noncomputable def Cc(om:Cd->Pl->Int->Int->Ii->Res (List Ii))(Z01:Cd)(Z0b:Int)(Z0e:Int)(a61:Pl×(List Ii)×(List Ii))(s129:(List<|Ii×Bool))(a133:Ii)(s134:Unit):Res (Fl Bool Unit):=((om Z01 a61.1 Z0b Z0e a133).bind fun y184=>cQ (Cb s129) y184 ()).bind (fun | .nx s185=>(DK<|.nx ())| .rt r=>DK (.rt r)| .bk _=>GZ)
@[irreducible]noncomputable def Bm(om:Cd->Pl->Int->Int->Ii->Res (List Ii))(Z01:Cd)(Z0b:Int)(Z0e:Int)(a61:Pl×(List Ii)×(List Ii))(s62:Unit):Res (Fl Bool Unit):=(bB Bl a61.2.2 ([]:List (Ii×Bool))).bind fun s129=>(cQ (Cc om Z01 Z0b Z0e a61 s129) a61.2.1 ()).bind (fun | .nx s189=>(DK<|.nx ())| .rt r=>DK (.rt r)| .bk _=>GZ)
@[irreducible]noncomputable def Ce(om:Cd->Pl->Int->Int->Ii->Res (List Ii))(Z01:Cd)(Z0o:List Pl)(Z0b:Int)(Z0e:Int)(Z0D:List (List Ii)):Res Bool:=(if(!(bT 3<|(fun(z:List (List Ii))=>HM<|z.map fun(z:List Ii)=>HM<|z.map fun(z:Ii)=>Hs [Fh z.1,Fh z.2]) Z0D))then DK true else if(decide<|(Z0D.length:Int)<(2:Int))then DK true else DK (decide<|((Z0o.length:Int)+(1:Int))<(Z0D.length:Int))).bind fun y1=>if y1 then DK false else(cQ Bk Z0D ()).bind (fun | .nx s47=>((((fc Z0D<|-(1:Int)).bind fun y51=>DK<|!y51.isEmpty).bind fun y53=>if y53 then DK true else(fc Z0D (0:Int)).bind fun y52=>DK<|!y52.contains ((0:Int),(0:Int))).bind fun y54=>if y54 then DK false else(cQ (Bm om Z01 Z0b Z0e) (Z0o.zip<|(cut Z0D none<|some<|-(1:Int)).zip (cut Z0D (some (1:Int)) none)) ()).bind (fun | .nx s193=>(DK true)| .rt r=>DK r| .bk _=>GZ))| .rt r=>DK r| .bk _=>GZ)
def wm(Z01:Cd)(Z0o:List Pl)(Z0b:Int)(Z0e:Int)(Z0D:List (List Ii)):Res Bool:=Ce om Z01 Z0o Z0b Z0e Z0D
@[irreducible]noncomputable def Cf(a9:Tx)(s10:Unit):Res (Fl Bool Unit):=(if(!decide (a9=([102]:Tx)))then if(!decide (a9=([98]:Tx)))then DK (!decide (a9=([105]:Tx)))else DK false else DK false).bind fun y30=>if y30 then DK (.rt false)else DK (.nx ())
@[irreducible]noncomputable def Bn(a103:Tx×Tx)(s104:Unit):Res (Fl Bool Unit):=(if(!decide (a103.2=([63]:Tx)))then DK (!decide (a103.2=a103.1))else DK false).bind fun y131=>if y131 then DK (.rt false)else DK (.nx ())
@[irreducible]noncomputable def Ah(fL:Cd->Tx->Res Int)(Z01:Cd)(Z0b:Int)(Z0e:Int)(a50:Tx×Pl×Pl)(s51:Ii):Res (Fl Bool Ii):=((fL Z01 a50.1).bind fun y87=>DK<|s51.1+y87).bind fun y88=>(jb (s51.2+(1:Int)) (if(decide<|a50.1=([105]:Tx))then(1:Int)else 0)).bind fun y93=>(if(decide<|Z0e<cP y88)then DK true else DK (decide<|Z0b<y93)).bind fun y96=>if y96 then DK (.rt false)else(cQ Bn ([a50.2.1.1,a50.2.1.2.1,a50.2.1.2.2].zip [a50.2.2.1,a50.2.2.2.1,a50.2.2.2.2]) ()).bind (fun | .nx s138=>(DK<|.nx (y88,y93))| .rt r=>DK (.rt r)| .bk _=>GZ)
@[irreducible]noncomputable def Cg(pj:Cd->Tx->Res (List Pl))(fL:Cd->Tx->Res Int)(Z01:Cd)(Z0o:List Pl)(Z0b:Int)(Z0e:Int)(Z1A:Tx):Res Bool:=((zr Z1A).bind fun y1=>DK<|!decide (y1=(Z0o.length:Int))).bind fun y2=>if y2 then DK false else(cQ Cf (bq Z1A) ()).bind (fun | .nx s37=>((((pj Z01 Z1A).bind fun y49=>DK<|(bq Z1A).zip (y49.zip Z0o)).bind fun y142=>cQ (Ah fL Z01 Z0b Z0e) y142 ((0:Int),(0:Int))).bind (fun | .nx s143=>(DK true)| .rt r=>DK r| .bk _=>GZ))| .rt r=>DK r| .bk _=>GZ)
def xK(Z01:Cd)(Z0o:List Pl)(Z0b:Int)(Z0e:Int)(Z1A:Tx):Res Bool:=Cg pj fL Z01 Z0o Z0b Z0e Z1A
@[irreducible]noncomputable def Ci(xJ:(List<|List Ii)->Res Bool)(wm:Cd->(List Pl)->Int->Int->(List<|List Ii)->Res Bool)(xK:Cd->(List Pl)->Int->Int->Tx->Res Bool)(Z01:Cd)(Z0o:List Pl)(Z0b:Int)(Z0A:(Option Int)×(Option Tx)×(List<|List Ii)):Res Bool:=(if(!(bT 4<|(fun(z:(Option Int)×(Option Tx)×(List<|List Ii))=>Hs [i8 (fun(z:Int)=>Fh z) z.1,i8 (fun(z:Tx)=>NM z) z.2.1,HM<|z.2.2.map fun(z:List Ii)=>HM<|z.map fun(z:Ii)=>Hs [Fh z.1,Fh z.2]]) Z0A))then DK true else if(!decide ((3:Int)=(3:Int)))then DK true else(xJ Z0A.2.2).bind fun y1=>DK<|!y1).bind fun y2=>if y2 then DK false else if Z0A.1.isNone then if Z0A.2.1.isNone then wm Z01 Z0o Z0b (Z0o.length:Int) Z0A.2.2 else DK false else(if(!(bT 1<|(fun(z:Option Int)=>i8 (fun(z:Int)=>Fh z) z) Z0A.1))then DK true else if(bT 0<|(fun(z:Option Int)=>i8 (fun(z:Int)=>Fh z) z) Z0A.1)then DK true else(lQ Z0A.1).bind fun y16=>DK<|decide<|y16<(0:Int)).bind fun y17=>if y17 then DK false else(if(!(bT 2<|(fun(z:Option Tx)=>i8 (fun(z:Tx)=>NM z) z) Z0A.2.1))then DK true else((lQ Z0A.1).bind fun y24=>(lQ Z0A.2.1).bind fun y25=>xK Z01 Z0o Z0b y24 y25).bind fun y26=>DK<|!y26).bind fun y27=>if y27 then DK false else((lQ Z0A.1).bind fun y34=>DK<|decide<|y34=(0:Int)).bind fun y35=>if y35 then DK Z0A.2.2.isEmpty else((lQ Z0A.1).bind fun y42=>DK<|y42-(1:Int)).bind fun y43=>wm Z01 Z0o Z0b y43 Z0A.2.2
def wo(Z01:Cd)(Z0o:List Pl)(Z0b:Int)(Z0A:(Option Int)×(Option Tx)×(List<|List Ii)):Res Bool:=Ci xJ wm xK Z01 Z0o Z0b Z0A
@[irreducible]noncomputable def qM(wd:List Int->Int->Res (Cd×(List Pl)×Int))(xD:(List Pl)->Int->Res (List Pl))(gT:List Int->Int->Res Int)(wo:Cd->(List Pl)->Int->((Option Int)×(Option Tx)×(List<|List Ii))->Res Bool)(vC:Cd->(List Pl)->Int->Res ((Option Int)×(Option Tx)×(List<|List Ii)))(Z0n:List Int):Res Bool:=(wd Z0n (12:Int)).bind fun y1=>((gT Z0n (7:Int)).bind fun y14=>xD y1.2.1 y14).bind fun y15=>(((vC y1.1 y15 y1.2.2).bind fun y18=>wo y1.1 y15 y1.2.2 y18).bind fun y19=>DK<|!y19).bind fun y20=>if y20 then DK false else if y15.isEmpty then DK true else((gT Z0n (5:Int)).bind fun y35=>jH y35 (y15.length:Int)).bind fun y36=>((gT Z0n (6:Int)).bind fun y41=>DK<|y41%4).bind fun y42=>((fc y15 y36).bind fun y47=>DK [y47.1,y47.2.1,y47.2.2]).bind fun y48=>(hV y48 (y42%3) ([63]:Tx)).bind fun y56=>(if(decide<|y42=(3:Int))then(((((gT Z0n (6:Int)).bind fun y63=>DK<|y63/4).bind fun y64=>DK<|y64%3).bind fun y65=>eR ([115,122,111]:Tx) y65).bind fun y69=>hV y56 (2:Int) y69).bind fun y70=>DK y70 else DK y56:Res (List Tx)).bind fun s72=>((((u9 s72).bind fun y82=>DK [y82]).bind fun y83=>wL (cut y15 none<|some y36) y83).bind fun y84=>wL y84<|cut y15 (some<|y36+(1:Int)) none).bind fun y85=>(vC y1.1 y85 y1.2.2).bind fun y88=>wo y1.1 y85 y1.2.2 y88
def vD(Z0n:List Int):Res Bool:=qM wd xD gT wo vC Z0n
end
end Mi
namespace Wb
open PySem L2 Mi
def tp(i:Nat):Stmt:=Jv.main.body.getD i<|.Pass ⟨0,0,0,0⟩
end Wb
local macro_rules | `(tactic|walk_at "L")=>`(tactic|first | exact MW rfl | exact M7 rfl)
local macro_rules | `(tactic|walk_at "F")=>`(tactic|exact⟨rfl,rfl,rfl,by decide +kernel,rfl,by decide +kernel,by decide +kernel⟩)
namespace Wb
open PySem L2 Mi
section
variable{P:E4}{w:E8}{K:DJ}{mg:Str->Option DM}{base:Heap}
theorem CS{f:Addr}{fd:Ee}(F:Fun K "_law_at" "_law_at" (tp 36) f fd)(h_len:mg "len"=none):FnOk P w K mg base CX0 (1) f fd ["_law_script","_law_k"] (bz (isScr K) isI (rs isI)<|Bz):=by
 have SC:FnScope ["_law_script","_law_k"] ["_law_script","_law_k"] (defScope<|tp 36):=by walk_at "F"
 refine F.ok SC (fun vs H Q E h=>?_)<|fun cdv A outer s H vs Q E hr h=>?_;·obtain⟨_,_,_,_,_,_,rfl,_⟩:=h;rfl
 ·obtain⟨W0,Z0n,l_k,Z17,_,rfl,rfl,Z02,z_l_k,Er,hq⟩:=h;cases z_l_k
  refine⟨_,(ae (aT (aq jv (pv 1) (aB (aW (K:=K) rfl) (by rfl) h_len EK<|a5 (pv 0) af)<|ay _) (ag<|ax<|aw (aU (K:=K) rfl) (pv 0) (pv 1)<|fun _ _=>rfl) aG)
   (ag (ax (aj aJ (aj dZ (aj aX (aj dZ (pv 1) aa) aa) (aj aX (aB (aW (K:=K) rfl) (by rfl) h_len EK (a5 (pv 0) af)) aa)) aa)))),?_⟩
  have E0:Ext W0 W0:=.refl W0;unfold Bz at hq;refine bp (Er:=Er) (ar<|bH aO<|l9<|aF Z02)<|fun W1 e2=>?_;have E0:=E0.trans e2;have Z02:=DD e2.g Z02;by_cases hb13:(decide<|l_k<(Z0n.length:Int))=true
  ·rw[if_pos hb13]at hq ⊢;exact aE (Er:=Er) (ui (aF Z02) aO)<|En hq fun y3 hq v4 W5 e6 h7=>hq v4 W5 (E0.trans e6) h7
  ·rw[if_neg hb13]at hq ⊢
   try dsimp only[aV]
   exact aE (Er:=Er) (ao (fun _=>by decide) (iO (aN (ao (fun _=>.inr ⟨by decide,by decide⟩) aO) ah)<|aN (l9<|aF Z02) ah))<|En hq fun y9 hq v10 W11 e12 h13=>hq v10 W11 (E0.trans e12) h13
theorem CT{f:Addr}{fd:Ee}(F:Fun K "_law_row" "_law_row" (tp 32) f fd)(h_abs:mg "abs"=none)(h_range:mg "range"=none):FnOk P w K mg base CX0 (1) f fd ["_law_cell","_law_many","_law_base"] (cI isI isI isI (ro isI)<|BA):=by
 have SC:FnScope ["_law_cell","_law_many","_law_base","_law_now","_law_far","_law_mix","_law_out","_law_k"] ["_law_cell","_law_many","_law_base"] (defScope<|tp 32):=by walk_at "F"
 refine F.ok SC (fun vs H Q E h=>?_)<|fun cdv A outer s H vs Q E hr h=>?_;·obtain⟨_,_,_,_,_,_,_,_,rfl,_⟩:=h;rfl
 ·obtain⟨W0,Z05,Z0y,Z1n,_,_,_,rfl,rfl,Z0F,Z2v,Z4w,Er,hq⟩:=h;cases Z0F;cases Z2v;cases Z4w
  refine⟨_,(ae (bW 3 (aB gY (by rfl) h_abs Hl<|a5 (pv 0) af))
   (ae (bW 4<|cF mP (pv 3) (aj z7 aa aa)<|ay _)
   (ae (bW 5<|aj aJ (pv 3) aa)
   (ae (bW 6<|bK af)
   (ae (bC Ec rfl (iH rfl h_range<|a5 (pv 1) af) (du 7) (ae (bW 5<|aj aJ (aj aX (aj aX (aj dZ (pv 5) aa) aa)<|pv 7) aa)
   (ag (aT (Ik<|fz (bS<|pv 4)<|eM<|aq jw (pv 3) aa<|ay _) (ae (dF<|bY (K:=K) rfl (pv 6)<|a5 (aj aJ (pv 3)<|pv 2) af)
   (ag (bW 3 (aj aY (pv 3) (pv 2))))) (ag (dF (bY (K:=K) rfl (pv 6) (a5 (aj aJ (aj aJ (aj dZ (pv 5) (pv 5)) aa) (pv 2)) af))))))))
   (ag (ax (pv 6)))))))),?_⟩
  have E0:Ext W0 W0:=.refl W0;unfold BA at hq;refine ak (Er:=Er) (lT aO)<|fun v3 W1 e2 h4=>?_;cases h4;have E0:=E0.trans e2;refine ak (Er:=Er) (bH aO (wR (r:=1000000000000000000) (by decide) (by decide)))<|fun v7 W5 e6 h8=>?_;cases h8;have E0:=E0.trans e6;refine ak (Er:=Er) (ao (fun _=>by decide) aO)<|fun v11 W9 e10 h12=>?_;cases h12;have E0:=E0.trans e10;refine cm (Er:=Er) (eT (R:=isI))<|fun p15 W13 e14 hp16 o17=>?_;have fr18:=aR E0.h hp16;have E0:=E0.trans e14;refine cx (Er:=Er) (f:=(A7 Z05 Z1n)) (s0:=(((cP Z05)%2147483647),cP Z05,([]:List Int))) (Iv:=fun(s21:(Int×Int×(List Int)))(W22:Wd)(g23:St)=>∃(d25:Option V),g23=[some (.int Z05),some<|.int Z0y,some<|.int Z1n,some<|.int s21.2.1,some<|.bl<|decide<|(1000000000000000000:Int)<=cP Z05,some<|.int s21.1,some<|.ref p15,d25]/\Ext W0 W22/\Ow isI W22 p15 s21.2.2) (jN aO) (DE hq) ?_ ?_ ?_
  ·intro W37 e38;have E0:=E0.trans e38;have o17:=o17.mono e38;exact⟨_,rfl,E0,o17⟩
  ·intro Wb26 W27 W28 a19 v29 s20 sg30 P31 hW32 hB33 iv e34 h35 hq;obtain⟨d25,rfl,E0,o24⟩:=iv;have E0:=E0.trans e34;have hB33:=hB33.trans e34.g;have o24:=o24.mono e34;cases h35;refine gn (σ':=[some (.int Z05),some<|.int Z0y,some<|.int Z1n,some<|.int s20.2.1,some<|.bl<|decide<|(1000000000000000000:Int)<=cP Z05,some<|.int s20.1,some<|.ref p15,some<|.int a19]) ?_;unfold A7 at hq;refine ak (Er:=Er) (ao (fun _=>by decide) (aN (aN (ao (fun _=>.inr ⟨by decide,by decide⟩) aO) ah) aO))<|fun v43 W41 e42 h44=>?_;cases h44;have E0:=E0.trans e42;have hB33:=hB33.trans e42.g;have o24:=o24.mono e42;refine iR (Er:=Er) (Iv:=fun(s74:(Int×(List Int)))(W75:Wd)(g76:St)=>g76=[some (.int Z05),some<|.int Z0y,some<|.int Z1n,some<|.int s74.1,some<|.bl<|decide<|(1000000000000000000:Int)<=cP Z05,some<|.int<|(((s20.1*48271)+(7919:Int))+a19)%2147483647,some<|.ref p15,some<|.int a19]/\Ext W0 W75/\Ow isI W75 p15 s74.2) (fG (fj CB)<|ar<|bH aO ah) (DE hq) ?_ ?_ ?_
   ·intro W46 N49 e47 hN50 hq;have hs51:=e47.g;have E0:=E0.trans e47;have hB33:=hB33.trans e47.g;have o24:=o24.mono e47;refine uh (Er:=Er) o24 (iP aO aO)<|(DE hq).imp fun y55 hq W52 mu53 o54=>?_;have E0:=mu53.e _ E0 fr18;have hB33:=hB33.trans mu53.g;have hs51:=hs51.trans mu53.g;refine cC (Er:=Er) (qb aO aO)<|(DE hq).imp fun y59 hq v60 W57 e58 h61=>?_;cases h61;have E0:=E0.trans e58;have hB33:=hB33.trans e58.g;have hs51:=hs51.trans e58.g;have o54:=o54.mono e58;exact hN50 (y59,y55) W57 _ hs51 ⟨rfl,E0,o54⟩ hq
   ·intro W46 N49 e47 hN50 hq;have hs62:=e47.g;have E0:=E0.trans e47;have hB33:=hB33.trans e47.g;have o24:=o24.mono e47;refine fH (Er:=Er) o24 (iP (ao (fun _=>by decide)<|iO aO aO) aO)<|(DE hq).imp fun y68 hq W65 mu66 o67=>?_;have E0:=mu66.e _ E0 fr18;have hB33:=hB33.trans mu66.g;have hs62:=hs62.trans mu66.g;exact hN50 (s20.2.1,y68) W65 _ hs62 ⟨rfl,E0,o67⟩ hq
   ·intro s70 W71 sg72 hS73 iv hq;obtain⟨rfl,E0,o77⟩:=iv;have hB33:=hB33.trans hS73
    try dsimp only
    refine bA (W:=W71) (((((s20.1*48271)+(7919:Int))+a19)%2147483647),s70.1,s70.2) hB33 ?_ hq;exact⟨_,rfl,E0,o77⟩
  ·intro s79 W80 sg81 hS82 iv hq;obtain⟨d25,rfl,E0,o24⟩:=iv;exact⟨.ref p15,rfl,hq p15 W80 E0 fr18 o24⟩
theorem CU{f:Addr}{fd:Ee}(F:Fun K "_law_holes" "_law_holes" (tp 33) f fd){gz:Int->Int->Int->Res (List Int)}(Z0w:Cal P w K mg base "_law_row" ["_law_cell","_law_many","_law_base"] (1) (cI isI isI isI (ro isI) gz)):FnOk P w K mg base CX0 (2) f fd ["_law_cell"] (cY isI (rs isS)<|BB gz):=by
 have SC:FnScope ["_law_cell","_law_size","_law_draws","_law_out","_law_d"] ["_law_cell"] (defScope<|tp 33):=by walk_at "F"
 refine F.ok SC (fun vs H Q E h=>?_)<|fun cdv A outer s H vs Q E hr h=>?_;·obtain⟨_,_,_,_,rfl,_⟩:=h;rfl
 ·obtain⟨W0,Z05,_,rfl,rfl,Z0F,Er,hq⟩:=h;cases Z0F;refine⟨_,(ae (bW 1<|aw (aU (K:=K) rfl) (bK<|a5 aa<|a5 aa<|a5 aa<|a5 aa<|a5 aa af) (aj aJ (pv 0) aa)<|fun _ _=>rfl)
   (ae (bW 2<|cv Z0w<|a5 (aj aY (pv 0) aa)<|a5 aa<|a5 aa af)
   (ae (bW 3 aM)
   (ae (bC Ec rfl (bu (K:=K) rfl<|ee (fV (K:=K) rfl) (pv 2) fB<|eO aa) (du 4)<|ag<|bW 3<|aj df (pv 3)<|aw bD aM (aj aJ (aj aX (aw (aU (K:=K) rfl) (pv 2) aa<|fun _ _=>rfl)<|aj dZ (aj aJ (pv 4)<|pv 1) aa) aa)<|fun _ _=>rfl)
   (ag (ax (pv 3))))))),?_⟩
  have E0:Ext W0 W0:=.refl W0;unfold BB at hq;refine ak (Er:=Er) (bL (Ir<|fZ<|bM ah<|bM ah<|bM ah<|bM ah<|bM ah<|fY (R:=isI)) (ao (fun _=>by decide) aO))<|(DE hq).imp fun y3 hq v4 W1 e2 h5=>?_;cases h5;have E0:=E0.trans e2;refine ak (Er:=Er) (FR (dO (ao (fun _=>⟨by decide,by decide⟩) aO) ah ah))<|(DE hq).imp fun y8 hq v9 W6 e7 h10=>?_;have E0:=E0.trans e7;refine ak (Er:=Er) (aP (x:=DP "") (l:=[]) (eP _ _ (by decide +kernel)))<|fun v13 W11 e12 h14=>?_;cases h14;have E0:=E0.trans e12;have h10:=DD e12.g h10;refine cx (Er:=Er) (f:=(A8 y3 y8)) (s0:=([]:Tx)) (Iv:=fun(s17:Tx)(W18:Wd)(g19:St)=>∃(d20:Option V),g19=[some (.int Z05),some<|.int y3,some v9,some<|.str<|sOf s17,d20]/\Ext W0 W18) (bN<|FR<|hZ (FW<|aF h10) jK<|jL ah) (DE hq) ?_ ?_ ?_
  ·intro W32 e33;have E0:=E0.trans e33;have h10:=DD e33.g h10;exact⟨_,rfl,E0⟩
  ·intro Wb21 W22 W23 a15 v24 s16 sg25 P26 hW27 hB28 iv e29 h30 hq;obtain⟨d20,rfl,E0⟩:=iv;have h10:=DD hW27 h10;have E0:=E0.trans e29;have hB28:=hB28.trans e29.g;have h10:=DD e29.g h10;cases h30;refine gn (σ':=[some (.int Z05),some<|.int y3,some v9,some<|.str<|sOf s16,some<|.int a15]) ?_;unfold A8 at hq;refine cC (Er:=Er) (gq cD (bE (aP (x:=DP "abcdefghijklmnopqrstuvwxyz") (l:=[97,98,99,100,101,102,103,104,105,106,107,108,109,110,111,112,113,114,115,116,117,118,119,120,121,122]) (eP _ _ (by decide +kernel))) (ao (fun _=>by decide) (aN (bL (FW<|aF h10) ah) (ao (fun _=>.inr ⟨by decide,by decide⟩)<|iP aO aO)))))<|(DE hq).imp fun y44 hq v45 W36 e37 h46=>?_;cases h46;have E0:=E0.trans e37;have hB28:=hB28.trans e37.g;have h10:=DD e37.g h10
   try dsimp only
   refine bA (W:=W36) y44 hB28 ?_ hq;exact⟨_,rfl,E0⟩
  ·intro s47 W48 sg49 hS50 iv hq;obtain⟨d20,rfl,E0⟩:=iv;exact aE (Er:=Er) cD<|fun v51 W52 e53 h54=>hq v51 W52 (E0.trans e53) h54
theorem CV{f:Addr}{fd:Ee}(F:Fun K "_law_card" "_law_card" (tp 34) f fd){xr:Int->Res Tx}(Z2w:Cal P w K mg base "_law_holes" ["_law_cell"] (2) (cY isI (rs isS) xr)):FnOk P w K mg base CX0 (3) f fd ["_law_cell"] (cY isI (rs<|qA K)<|BC xr):=by
 have SC:FnScope ["_law_cell"] ["_law_cell"] (defScope<|tp 34):=by walk_at "F"
 refine F.ok SC (fun vs H Q E h=>?_)<|fun cdv A outer s H vs Q E hr h=>?_;·obtain⟨_,_,_,_,rfl,_⟩:=h;rfl
 ·obtain⟨W0,Z05,_,rfl,rfl,Z0F,Er,hq⟩:=h;cases Z0F;refine⟨_,(ag<|ax<|bJ<|a5 (aw bD aM (aj aJ (pv 0) aa)<|fun _ _=>rfl)<|a5 (cv Z2w<|a5 (aj aY (pv 0) aa) af)<|a5 (aj aJ (aj aY (pv 0) aa) aa) af),?_⟩;have E0:Ext W0 W0:=.refl W0;unfold BC at hq;exact aE (Er:=Er) (bR (K:=K) (bE (aP (x:=DP "SZ") (l:=[83,90]) (eP _ _ (by decide +kernel))) (ao (fun _=>by decide) aO)) (cw (ao (fun _=>⟨by decide,by decide⟩) aO)) (ao (fun _=>by decide) (ao (fun _=>⟨by decide,by decide⟩) aO)))<|En hq fun y3 hq v4 W5 e6 h7=>hq v4 W5 (E0.trans e6) h7
theorem CW{f:Addr}{fd:Ee}(F:Fun K "_law_turns" "_law_turns" (tp 35) f fd){gz:Int->Int->Int->Res (List Int)}(Z0w:Cal P w K mg base "_law_row" ["_law_cell","_law_many","_law_base"] (1) (cI isI isI isI (ro isI) gz)):FnOk P w K mg base CX0 (2) f fd ["_law_cell","_law_many"] (bz isI isI (rs isS)<|BD gz):=by
 have SC:FnScope ["_law_cell","_law_many"] ["_law_cell","_law_many"] (defScope<|tp 35):=by walk_at "F"
 refine F.ok SC (fun vs H Q E h=>?_)<|fun cdv A outer s H vs Q E hr h=>?_;·obtain⟨_,_,_,_,_,_,rfl,_⟩:=h;rfl
 ·obtain⟨W0,Z05,Z0y,_,_,rfl,rfl,Z0F,Z2v,Er,hq⟩:=h;cases Z0F;cases Z2v;refine⟨_,(ae (aT (aq cb (aj aJ (pv 0) aa) aa<|ay _) (ag<|ax<|aj oH (aw bD aM (aj aJ (aj aY (pv 0) aa) aa)<|fun _ _=>rfl)<|pv 1) aG)
   (ag (ax (jP (K:=K) rfl aM (a5 (dG (N:=["_law_d"]) (cap:=[none]) (gZ rfl (by decide +kernel) rfl (by decide +kernel) (by rfl) (by rfl)) rfl (bu (K:=K) rfl (cv Z0w (a5 (aj aY (pv 0) aa) (a5 (pv 1) (a5 aa af))))) (fun _ _ _ _=>(bo (i:=0) (show Fg (["_law_d"]:List Str) by decide +kernel) rfl (by walk_at "L"))) (fun _ _ _ _=>cq) (fun _ _ _ _=>(aw bD aM (pv 0) (fun _ _=>rfl)))) af))))),?_⟩
  have E0:Ext W0 W0:=.refl W0;rw[show L2.start ["_law_cell","_law_many"] [.int Z05,.int Z0y]=[some (.int Z05),some<|.int Z0y]from rfl];unfold BD at hq;refine bp (Er:=Er) (ar (cB (ao (fun _=>by decide) aO) ah))<|fun W1 e2=>?_;have E0:=E0.trans e2;by_cases hb24:(decide<|(Z05%7)=(3:Int))=true
  ·rw[if_pos hb24]at hq ⊢;exact aE (Er:=Er) (wM (bE (aP (x:=DP "fbi") (l:=[102,98,105]) (eP _ _ (by decide +kernel))) (ao (fun _=>by decide) (ao (fun _=>⟨by decide,by decide⟩) aO))) aO)<|En hq fun y4 hq v5 W6 e7 h8=>hq v5 W6 (E0.trans e7) h8
  ·rw[if_neg hb24]at hq ⊢
   try dsimp only[aV]
   exact aE (Er:=Er) (lU (eP _ _ (by decide +kernel)) (Ir (dH (bN (FR (dO (ao (fun _=>⟨by decide,by decide⟩) aO) aO ah))) fun W11 a9 v10 e12 h13 Q16 k17=>by
    cases h13;refine gn ?_;exact⟨by simp[Keep,bh],((bE (aP (x:=DP "fbi") (l:=[102,98,105]) (eP _ _ (by decide +kernel))) aO):EV Er _ [some (.int a9)] _ _ _) _ (.refl _) _ k17⟩))) (En hq fun y20 hq v21 W22 e23 h24=>hq v21 W22 (E0.trans e23) h24)
theorem CY{f:Addr}{fd:Ee}(F:Fun K "_law_go" "_law_go" (tp 38) f fd):FnOk P w K mg base CX0 (1) f fd ["_law_turn"] (cY isS (rs isI)<|BE):=by
 have SC:FnScope ["_law_turn"] ["_law_turn"] (defScope<|tp 38):=by walk_at "F"
 refine F.ok SC (fun vs H Q E h=>?_)<|fun cdv A outer s H vs Q E hr h=>?_;·obtain⟨_,_,_,_,rfl,_⟩:=h;rfl
 ·obtain⟨W0,Z0W,_,rfl,rfl,Z2x,Er,hq⟩:=h;cases Z2x;refine⟨_,(ag<|ax<|aj fA (fo (K:=K) rfl rfl aM<|a5 (pv 0) af) aa),?_⟩;have E0:Ext W0 W0:=.refl W0;unfold BE at hq;exact aE (Er:=Er) (aN (hX (aP (x:=DP "bif") (l:=[98,105,102]) (eP _ _ (by decide +kernel))) cD) ah)<|En hq fun y2 hq v3 W4 e5 h6=>hq v3 W4 (E0.trans e5) h6
theorem CZ{f:Addr}{fd:Ee}(F:Fun K "_law_behind" "_law_behind" (tp 39) f fd){oj:Tx->Res Int}(Z1B:Cal P w K mg base "_law_go" ["_law_turn"] (1) (cY isS (rs isI) oj)):FnOk P w K mg base CX0 (2) f fd ["_law_card_here","_law_turn"] (bz (qA K) isS (rs<|qA K)<|BF oj):=by
 have SC:FnScope ["_law_card_here","_law_turn"] ["_law_card_here","_law_turn"] (defScope<|tp 39):=by walk_at "F"
 refine F.ok SC (fun vs H Q E h=>?_)<|fun cdv A outer s H vs Q E hr h=>?_;·obtain⟨_,_,_,_,_,_,rfl,_⟩:=h;rfl
 ·obtain⟨W0,Z01,Z0W,Z08,_,rfl,rfl,Z00,Z2x,Er,hq⟩:=h;cases Z2x;refine⟨_,(ag<|ax<|bJ<|a5 (aw (aA (K:=K) rfl) (pv 0) aa<|fun _ _=>rfl)<|a5 (aw (aA (K:=K) rfl) (pv 0) aa<|fun _ _=>rfl)<|a5 (aj aJ (aj aX (aw (aA (K:=K) rfl) (pv 0) aa<|fun _ _=>rfl)<|cv Z1B<|a5 (pv 1) af) aa) af),?_⟩;have E0:Ext W0 W0:=.refl W0;unfold BF at hq;exact aE (Er:=Er) (bR (K:=K) (aK (f:=fun(b:Cd)=>b.1) gD<|aF Z00) (aK (f:=fun(b:Cd)=>b.2.1) gP<|aF Z00) (ao (fun _=>by decide)<|aN (aK (f:=fun(b:Cd)=>b.2.2) gQ<|aF Z00)<|cw cD))<|En hq fun y4 hq v5 W6 e7 h8=>hq v5 W6 (E0.trans e7) h8
theorem D0{f:Addr}{fd:Ee}(F:Fun K "_law_twist" "_law_twist" (tp 40) f fd){oj:Tx->Res Int}(Z1B:Cal P w K mg base "_law_go" ["_law_turn"] (1) (cY isS (rs isI) oj)):FnOk P w K mg base CX0 (2) f fd ["_law_card_here","_law_turn"] (bz (qA K) isS (rs isI)<|BG oj):=by
 have SC:FnScope ["_law_card_here","_law_turn"] ["_law_card_here","_law_turn"] (defScope<|tp 40):=by walk_at "F"
 refine F.ok SC (fun vs H Q E h=>?_)<|fun cdv A outer s H vs Q E hr h=>?_;·obtain⟨_,_,_,_,_,_,rfl,_⟩:=h;rfl
 ·obtain⟨W0,Z01,Z0W,Z08,_,rfl,rfl,Z00,Z2x,Er,hq⟩:=h;cases Z2x;refine⟨_,(ae (aT (aq cb (aw (aA (K:=K) rfl) (pv 0) aa<|fun _ _=>rfl) aM<|ay _) (ag<|ax<|cv Z1B<|a5 (pv 1) af) aG)
   (ag (ax (aj fA aa (cv Z1B (a5 (pv 1) af)))))),?_⟩
  have E0:Ext W0 W0:=.refl W0;unfold BG at hq;refine bp (Er:=Er) (ar (fF (aK (f:=fun(b:Cd)=>b.1) gD<|aF Z00) (aP (x:=DP "S") (l:=[83]) (eP _ _ (by decide +kernel)))))<|fun W1 e2=>?_;have E0:=E0.trans e2;have Z00:=DD e2.g Z00;by_cases hb13:(decide<|Z01.1=([83]:Tx))=true
  ·rw[if_pos hb13]at hq ⊢;exact aE (Er:=Er) (cw cD)<|En hq fun y3 hq v4 W5 e6 h7=>hq v4 W5 (E0.trans e6) h7
  ·rw[if_neg hb13]at hq ⊢
   try dsimp only[aV]
   exact aE (Er:=Er) (aN ah<|cw cD)<|En hq fun y9 hq v10 W11 e12 h13=>hq v10 W11 (E0.trans e12) h13
theorem D4{f:Addr}{fd:Ee}(F:Fun K "_law_places" "_law_places" (tp 41) f fd){jr:Cd->Tx->Res Cd}{fL:Cd->Tx->Res Int}(Z10:Cal P w K mg base "_law_behind" ["_law_card_here","_law_turn"] (2) (bz (qA K) isS (rs<|qA K) jr))(Z0K:Cal P w K mg base "_law_twist" ["_law_card_here","_law_turn"] (2) (bz (qA K) isS (rs isI) fL)):FnOk P w K mg base CX0 (3) f fd ["_law_card_here","_law_turns_here"] (bz (qA K) isS (ro<|qB K)<|BH jr fL):=by
 have SC:FnScope ["_law_card_here","_law_turns_here","_law_out","_law_turn","_law_slant"] ["_law_card_here","_law_turns_here"] (defScope<|tp 41):=by walk_at "F"
 refine F.ok SC (fun vs H Q E h=>?_)<|fun cdv A outer s H vs Q E hr h=>?_;·obtain⟨_,_,_,_,_,_,rfl,_⟩:=h;rfl
 ·obtain⟨W0,Z01,Z0c,Z08,_,rfl,rfl,Z00,Z0L,Er,hq⟩:=h;cases Z0L;refine⟨_,(ae (bW 2<|bK af)
   (ae (bC Ec rfl (iL<|pv 1) (du 3) (ae (bW 0<|cv Z10<|a5 (pv 0)<|a5 (pv 3) af)
   (ae (bW 4<|aw bD aM (aj aX (cv Z0K<|a5 (pv 0)<|a5 (pv 3) af) aa)<|fun _ _=>rfl)
   (ag (dF (bY (K:=K) rfl (pv 2) (a5 (bJ (a5 (aw bD (aw (aA (K:=K) rfl) (pv 0) aa (fun _ _=>rfl)) (aw (aA (K:=K) rfl) (pv 0) aa (fun _ _=>rfl)) (fun _ _=>rfl)) (a5 (aw bD (aw (aA (K:=K) rfl) (pv 0) aa (fun _ _=>rfl)) (aj aJ (aj aX (aw (aA (K:=K) rfl) (pv 0) aa (fun _ _=>rfl)) aa) aa) (fun _ _=>rfl)) (a5 (pv 4) af)))) af)))))))
   (ag (ax (pv 2))))),?_⟩
  have E0:Ext W0 W0:=.refl W0;unfold BH at hq;refine cm (Er:=Er) (eT (R:=(qB K)))<|fun p3 W1 e2 hp4 o5=>?_;have fr6:=aR E0.h hp4;have E0:=E0.trans e2;have Z00:=DD e2.g Z00;refine cx (Er:=Er) (f:=(A9 jr fL)) (s0:=(Z01,([]:List Pl))) (Iv:=fun(s9:(Cd×(List Pl)))(W10:Wd)(g11:St)=>∃(v12:V)(d15:Option V)(d16:Option V),g11=[some v12,some<|.str<|sOf Z0c,some<|.ref p3,d16,d15]/\Ext W0 W10/\(qA K) W10.G s9.1 v12/\Ow (qB K) W10 p3 s9.2) (iQ cD) (DE hq) ?_ ?_ ?_
  ·intro W28 e29;have E0:=E0.trans e29;have Z00:=DD e29.g Z00;have o5:=o5.mono e29;exact⟨_,_,_,rfl,E0,Z00,o5⟩
  ·intro Wb17 W18 W19 a7 v20 s8 sg21 P22 hW23 hB24 iv e25 h26 hq;obtain⟨v12,d15,d16,rfl,E0,h13,o14⟩:=iv;have E0:=E0.trans e25;have hB24:=hB24.trans e25.g;have o14:=o14.mono e25;have h13:=DD e25.g h13;cases h26;refine gn (σ':=[some v12,some<|.str<|sOf Z0c,some<|.ref p3,some<|.str<|sOf a7,d15]) ?_;unfold A9 at hq;refine ak (Er:=Er) (aQ (aF h13) cD)<|(DE hq).imp fun y34 hq v35 W32 e33 h36=>?_;have E0:=E0.trans e33;have hB24:=hB24.trans e33.g;have o14:=o14.mono e33;refine ak (Er:=Er) (bE (aP (x:=DP "zos") (l:=[122,111,115]) (eP _ _ (by decide +kernel)))<|aN (aQ (aF h36) cD) ah)<|(DE hq).imp fun y41 hq v42 W37 e38 h43=>?_;cases h43;have E0:=E0.trans e38;have hB24:=hB24.trans e38.g;have o14:=o14.mono e38;have h36:=DD e38.g h36;refine fH (Er:=Er) o14 (bR (K:=K) (bE (aK (f:=fun(b:Cd)=>b.2.1) gP<|aF h36)<|aK (f:=fun(b:Cd)=>b.2.2) gQ<|aF h36) (bE (aK (f:=fun(b:Cd)=>b.2.1) gP<|aF h36) (ao (fun _=>by decide)<|aN (aK (f:=fun(b:Cd)=>b.2.2) gQ<|aF h36) ah)) cD)<|(DE hq).imp fun y49 hq W46 mu47 o48=>?_;have E0:=mu47.e _ E0 fr6;have hB24:=hB24.trans mu47.g;have h36:=DD mu47.g h36
   try dsimp only
   refine bA (W:=W46) (y34,y49) hB24 ?_ hq;exact⟨_,_,_,rfl,E0,h36,o48⟩
  ·intro s51 W52 sg53 hS54 iv hq;obtain⟨v12,d15,d16,rfl,E0,h13,o14⟩:=iv;exact⟨.ref p3,rfl,hq p3 W52 E0 fr6 o14⟩
theorem D5{f:Addr}{fd:Ee}(F:Fun K "_law_long" "_law_long" (tp 43) f fd){gz:Int->Int->Int->Res (List Int)}(Z0w:Cal P w K mg base "_law_row" ["_law_cell","_law_many","_law_base"] (1) (cI isI isI isI (ro isI) gz))(h_len:mg "len"=none)(h_zip:mg "zip"=none):FnOk P w K mg base CX0 (2) f fd ["_law_places_here","_law_cell"] (bz (qD K) isI (ro<|qB K)<|BI gz):=by
 have SC:FnScope ["_law_places_here","_law_cell","_law_out","_law_worn","_law_draws","_law_place","_law_d","_law_at_here"] ["_law_places_here","_law_cell"] (defScope<|tp 43):=by walk_at "F"
 refine F.ok SC (fun vs H Q E h=>?_)<|fun cdv A outer s H vs Q E hr h=>?_;·obtain⟨_,_,_,_,_,_,rfl,_⟩:=h;rfl
 ·obtain⟨W0,Z0t,Z05,Z0r,_,rfl,rfl,Z04,Z0F,Er,hq⟩:=h;cases Z0F;refine⟨_,(ae (bW 2<|bK af)
   (ae (bW 3 aa)
   (ae (bW 4 (cv Z0w (a5 (aj aY (pv 1) aa) (a5 (aB (aW (K:=K) rfl) (by rfl) h_len EK<|a5 (pv 0) af)<|a5 aa af))))
   (ae (bC Ec rfl (fD (K:=K) rfl rfl h_zip<|a5 (pv 0)<|a5 (pv 4) af) (bt (K:=K) (n:=2) rfl rfl<|au (du 5)<|au (du 6) br) (ae (aT (Ik<|fz (aq cb (pv 6) aa<|ay _)<|eM<|aq jv (pv 3) aa<|ay _) (ae (bW 3<|aj aX (pv 3) aa)
   (ag (bW 5 (bJ (a5 aM (a5 (aw (aA (K:=K) rfl) (pv 5) aa (fun _ _=>rfl)) (a5 aM af))))))) aG)
   (ag (dF (bY (K:=K) rfl (pv 2) (a5 (pv 5) af))))))
   (ae (aT (aq cb (aj aJ (pv 1) aa) aa<|ay _) (ae (bW 7 (aj aJ (aj aY (pv 1) aa) (aB (aW (K:=K) rfl) (by rfl) h_len EK<|a5 (pv 0) af)))
   (ag (de (bJ (a5 (aw (aA (K:=K) rfl) (aw (aU (K:=K) rfl) (pv 2) (pv 7) (fun _ _=>rfl)) aa (fun _ _=>rfl)) (a5 (aw (aA (K:=K) rfl) (aw (aU (K:=K) rfl) (pv 2) (pv 7) (fun _ _=>rfl)) aa (fun _ _=>rfl)) (a5 (aw bD aM (aj aJ (aj aY (pv 1) aa) aa) (fun _ _=>rfl)) af)))) (ju (pv 2) (pv 7) fR)))) aG)
   (ag (ax (pv 2)))))))),?_⟩
  have E0:Ext W0 W0:=.refl W0;unfold BI at hq;refine cm (Er:=Er) (eT (R:=(qB K)))<|fun p3 W1 e2 hp4 o5=>?_;have fr6:=aR E0.h hp4;have E0:=E0.trans e2;have Z04:=DD e2.g Z04;refine ak (Er:=Er) ah<|fun v9 W7 e8 h10=>?_;cases h10;have E0:=E0.trans e8;have Z04:=DD e8.g Z04;have o5:=o5.mono e8;refine ak (Er:=Er) (FR (dO (ao (fun _=>⟨by decide,by decide⟩) aO) (cu<|FW<|aF Z04) ah))<|(DE hq).imp fun y13 hq v14 W11 e12 h15=>?_;have E0:=E0.trans e12;have Z04:=DD e12.g Z04;have o5:=o5.mono e12;refine cx (Er:=Er) (f:=Aa) (s0:=((0:Int),([]:List Pl))) (Iv:=fun(s18:(Int×(List Pl)))(W19:Wd)(g20:St)=>∃(d22:Option V)(d23:Option V),g20=[some Z0r,some<|.int Z05,some<|.ref p3,some<|.int s18.1,some v14,d22,d23,none]/\Ext W0 W19/\Ow (qB K) W19 p3 s18.2) (gR (dh<|aF Z04)<|dh<|aF h15) (DE hq) ?_ ?_ ?_
  ·intro W35 e36;have E0:=E0.trans e36;have Z04:=DD e36.g Z04;have o5:=o5.mono e36;exact⟨_,_,rfl,E0,o5⟩
  ·intro Wb24 W25 W26 a16 v27 s17 sg28 P29 hW30 hB31 iv e32 h33 hq;obtain⟨d22,d23,rfl,E0,o21⟩:=iv;have Z04:=DD hW30 Z04;have E0:=E0.trans e32;have hB31:=hB31.trans e32.g;have Z04:=DD e32.g Z04;have o21:=o21.mono e32;refine i5 h33 fun v41 v43 h42 h44=>?_;cases h44;unfold Aa at hq;refine bI (Er:=Er) (Iv:=fun(s65:(Int×Pl))(W66:Wd)(g67:St)=>∃(v68:V),g67=[some Z0r,some<|.int Z05,some<|.ref p3,some<|.int s65.1,some v14,some v68,some<|.int a16.2,none]/\Ext W0 W66/\(qB K) W66.G s65.2 v68/\Ow (qB K) W66 p3 s17.2) (fG (ar<|cB aO ah)<|ar<|bH aO ah) (DE hq) ?_ ?_ ?_
   ·intro W46 N49 e47 hN50 hq;have hs51:=e47.g;have E0:=E0.trans e47;have hB31:=hB31.trans e47.g;have Z04:=DD e47.g Z04;have o21:=o21.mono e47;have h42:=DD e47.g h42;refine ak (Er:=Er) (aN aO ah)<|fun v54 W52 e53 h55=>?_;cases h55;have E0:=E0.trans e53;have hB31:=hB31.trans e53.g;have hs51:=hs51.trans e53.g;have Z04:=DD e53.g Z04;have o21:=o21.mono e53;have h42:=DD e53.g h42;refine cC (Er:=Er) (bR (K:=K) (aP (x:=DP "?") (l:=[63]) (eP _ _ (by decide +kernel))) (aK (f:=fun(b:Pl)=>b.2.1) gP<|aF h42) (aP (x:=DP "?") (l:=[63]) (eP _ _ (by decide +kernel))))<|fun v58 W56 e57 h59=>?_;have E0:=E0.trans e57;have hB31:=hB31.trans e57.g;have hs51:=hs51.trans e57.g;have Z04:=DD e57.g Z04;have o21:=o21.mono e57;exact hN50 ((s17.1+(1:Int)),(([63]:Tx),a16.1.2.1,([63]:Tx))) W56 _ hs51 ⟨_,rfl,E0,h59,o21⟩ hq
   ·intro W46 N49 e47 hN50 hq;have hs60:=e47.g;have E0:=E0.trans e47;have hB31:=hB31.trans e47.g;have Z04:=DD e47.g Z04;have o21:=o21.mono e47;have h42:=DD e47.g h42
    try dsimp only[aV]
    exact hN50 (s17.1,a16.1) W46 _ hs60 ⟨_,rfl,E0,h42,o21⟩ hq
   ·intro s61 W62 sg63 hS64 iv hq;obtain⟨v68,rfl,E0,h69,o70⟩:=iv;have hB31:=hB31.trans hS64;have Z04:=DD hS64 Z04;refine fH (Er:=Er) o70 (aF h69)<|(DE hq).imp fun y74 hq W71 mu72 o73=>?_;have E0:=mu72.e _ E0 fr6;have hB31:=hB31.trans mu72.g;have Z04:=DD mu72.g Z04;have h69:=DD mu72.g h69
    try dsimp only
    refine bA (W:=W71) (s61.1,y74) hB31 ?_ hq;exact⟨_,_,rfl,E0,o73⟩
  ·intro s75 W76 sg77 hS78 iv hq;obtain⟨d22,d23,rfl,E0,o21⟩:=iv;have Z04:=DD hS78 Z04;refine bI (Er:=Er) (Iv:=fun(s105:(List Pl))(W106:Wd)(g107:St)=>∃(d109:Option V),g107=[some Z0r,some<|.int Z05,some<|.ref p3,some<|.int s75.1,some v14,d22,d23,d109]/\Ext W0 W106/\Ow (qB K) W106 p3 s105) (ar (cB (ao (fun _=>by decide) aO) ah)) (DE hq) ?_ ?_ ?_
   ·intro W79 N82 e80 hN83 hq;have hs84:=e80.g;have E0:=E0.trans e80;have Z04:=DD e80.g Z04;have o21:=o21.mono e80;refine ak (Er:=Er) (iP (ao (fun _=>⟨by decide,by decide⟩) aO)<|cu<|FW<|aF Z04)<|(DE hq).imp fun y87 hq v88 W85 e86 h89=>?_;cases h89;have E0:=E0.trans e86;have hs84:=hs84.trans e86.g;have o21:=o21.mono e86;refine i6 (Er:=Er) o21 (bR (K:=K) (aK (f:=fun(b:Pl)=>b.1) gD<|bL (cR o21) aO) (aK (f:=fun(b:Pl)=>b.2.1) gP<|bL (cR o21) aO) (bE (aP (x:=DP "szo") (l:=[115,122,111]) (eP _ _ (by decide +kernel))) (ao (fun _=>by decide) (ao (fun _=>⟨by decide,by decide⟩) aO)))) aO<|(DE hq).imp fun y99 hq W95 mu96 o97=>?_;have E0:=mu96.e _ E0 fr6;have hs84:=hs84.trans mu96.g;exact hN83 y99 W95 _ hs84 ⟨_,rfl,E0,o97⟩ hq
   ·intro W79 N82 e80 hN83 hq;have hs100:=e80.g;have E0:=E0.trans e80;have Z04:=DD e80.g Z04;have o21:=o21.mono e80
    try dsimp only[aV]
    exact hN83 s75.2 W79 _ hs100 ⟨_,rfl,E0,o21⟩ hq
   ·intro s101 W102 sg103 hS104 iv hq;obtain⟨d109,rfl,E0,o108⟩:=iv;exact⟨.ref p3,rfl,hq p3 W102 E0 fr6 o108⟩
theorem D6{f:Addr}{fd:Ee}(F:Fun K "_law_marks" "_law_marks" (tp 42) f fd){gz:Int->Int->Int->Res (List Int)}(Z0w:Cal P w K mg base "_law_row" ["_law_cell","_law_many","_law_base"] (1) (cI isI isI isI (ro isI) gz))(h_int:mg "int"=none)(h_len:mg "len"=none)(h_tuple:mg "tuple"=none)(h_zip:mg "zip"=none):FnOk P w K mg base CX0 (2) f fd ["_law_places_here","_law_cell","_law_lies"] (cI (qD K) isI isB (ro<|qB K)<|BJ gz):=by
 have SC:FnScope ["_law_places_here","_law_cell","_law_lies","_law_out","_law_draws","_law_place","_law_d","_law_mark","_law_letters"] ["_law_places_here","_law_cell","_law_lies"] (defScope<|tp 42):=by walk_at "F"
 refine F.ok SC (fun vs H Q E h=>?_)<|fun cdv A outer s H vs Q E hr h=>?_;·obtain⟨_,_,_,_,_,_,_,_,rfl,_⟩:=h;rfl
 ·obtain⟨W0,Z0t,Z05,Z1z,Z0r,_,_,rfl,rfl,Z04,Z0F,Z4z,Er,hq⟩:=h;cases Z0F;cases Z4z;refine⟨_,(ae (bW 3<|bK af)
   (ae (bW 4 (cv Z0w (a5 (aj aY (pv 1) aa) (a5 (aB (aW (K:=K) rfl) (by rfl) h_len EK<|a5 (pv 0) af) (a5 (aj aX aa (aj dZ aa (cJ iJ (by rfl) h_int Gz<|a5 (pv 2) af))) af)))))
   (ae (bC Ec rfl (fD (K:=K) rfl rfl h_zip<|a5 (pv 0)<|a5 (pv 4) af) (bt (K:=K) (n:=2) rfl rfl<|au (du 5)<|au (du 6) br) (ae (aT (aq cb (aj aJ (pv 1) aa) aa<|ay _) (ag<|bW 6<|aj dZ (aj aY (pv 6) aa) aa) aG)
   (ae (aT (aq cb (aj aJ (pv 1) aa) aa<|ay _) (ag<|bW 6<|aj aX (aj dZ (aj aY (pv 6) aa) aa) aa) aG)
   (ae (bW 7<|bK<|a5 (aw (aA (K:=K) rfl) (pv 5) aa<|fun _ _=>rfl)<|a5 (aw (aA (K:=K) rfl) (pv 5) aa<|fun _ _=>rfl)<|a5 (aw (aA (K:=K) rfl) (pv 5) aa<|fun _ _=>rfl) af)
   (ae (aT (Ik<|fz (aq mP (pv 6) aa<|ay _)<|eM<|aq jv (aj aJ (pv 6) aa) aa<|ay _) (ae (bW 8 aM)
   (ag (de (aw bD (pv 8) (aj aX (fo (K:=K) rfl rfl (pv 8) (a5 (aw (aU (K:=K) rfl) (pv 7) (aj aJ (pv 6) aa) (fun _ _=>rfl)) af)) aa) (fun _ _=>rfl)) (ju (pv 7) (aj aJ (pv 6) aa) fR)))) aG)
   (ae (aT (Ik<|fz (aq mP (pv 6) aa<|ay _)<|eM<|aq cb (aj aJ (pv 6) aa) aa<|ay _) (ag<|de (aw bD aM (fo (K:=K) rfl rfl aM<|a5 (aw (aU (K:=K) rfl) (pv 7) aa<|fun _ _=>rfl) af)<|fun _ _=>rfl)<|ju (pv 7) aa fR) aG)
   (ag (dF (bY (K:=K) rfl (pv 3) (a5 (cJ (gb (K:=K) rfl) (by rfl) h_tuple Gh (a5 (dG (N:=["_law_sign","_law_part","_law_d"]) (cap:=[none,none,some 6]) (gZ rfl (by decide +kernel) rfl (by decide +kernel) (by rfl) (by rfl)) rfl (fD (K:=K) rfl rfl h_zip (a5 (pv 7) (a5 (bK (a5 aa (a5 aa (a5 aa af)))) af))) (fun _ _ _ _=>(bt (K:=K) (n:=2) rfl rfl (au (bo (i:=0) (show Fg (["_law_sign","_law_part","_law_d"]:List Str) by decide +kernel) rfl (by walk_at "L")) (au (bo (i:=1) (show Fg (["_law_sign","_law_part","_law_d"]:List Str) by decide +kernel) rfl (by walk_at "L")) br)))) (fun _ _ _ _=>cq) (fun _ _ _ _=>(dX (aq cb (aj aJ (aj aY (pv 2) (pv 1)) aa) aa (ay _)) (pv 0) aM))) af)) af))))))))))
   (ag (ax (pv 3)))))),?_⟩
  have E0:Ext W0 W0:=.refl W0;rw[show L2.start ["_law_places_here","_law_cell","_law_lies","_law_out","_law_draws","_law_place","_law_d","_law_mark","_law_letters"] [Z0r,.int Z05,.bl Z1z]=[some Z0r,some<|.int Z05,some<|.bl Z1z,none,none,none,none,none,none]from rfl];unfold BJ at hq;refine cm (Er:=Er) (eT (R:=(qB K)))<|fun p3 W1 e2 hp4 o5=>?_;have fr6:=aR E0.h hp4;have E0:=E0.trans e2;have Z04:=DD e2.g Z04;refine ak (Er:=Er) (FR (dO (ao (fun _=>⟨by decide,by decide⟩) aO) (cu<|FW<|aF Z04)<|aN ah<|iO ah<|lV CB))<|(DE hq).imp fun y11 hq v12 W7 e8 h13=>?_;have E0:=E0.trans e8;have Z04:=DD e8.g Z04;have o5:=o5.mono e8;refine cx (Er:=Er) (f:=(Ab Z05)) (s0:=([]:List Pl)) (Iv:=fun(s16:(List Pl))(W17:Wd)(g18:St)=>∃(d20:Option V)(d21:Option V)(d22:Option V)(d23:Option V),g18=[some Z0r,some<|.int Z05,some<|.bl Z1z,some<|.ref p3,some v12,d23,d20,d21,d22]/\Ext W0 W17/\Ow (qB K) W17 p3 s16) (gR (dh<|aF Z04)<|dh<|aF h13) (DE hq) ?_ ?_ ?_
  ·intro W35 e36;have E0:=E0.trans e36;have o5:=o5.mono e36;exact⟨_,_,_,_,rfl,E0,o5⟩
  ·intro Wb24 W25 W26 a14 v27 s15 sg28 P29 hW30 hB31 iv e32 h33 hq;obtain⟨d20,d21,d22,d23,rfl,E0,o19⟩:=iv;have E0:=E0.trans e32;have hB31:=hB31.trans e32.g;have o19:=o19.mono e32;refine i5 h33 fun v41 v43 h42 h44=>?_;cases h44;unfold Ab at hq;refine bI (Er:=Er) (Iv:=fun(s60:Int)(W61:Wd)(g62:St)=>g62=[some Z0r,some<|.int Z05,some<|.bl Z1z,some<|.ref p3,some v12,some v41,some<|.int s60,d21,d22]/\Ext W0 W61/\Ow (qB K) W61 p3 s15) (ar (cB (ao (fun _=>by decide) aO) ah)) (DE hq) ?_ ?_ ?_
   ·intro W45 N48 e46 hN49 hq;have hs50:=e46.g;have E0:=E0.trans e46;have hB31:=hB31.trans e46.g;have o19:=o19.mono e46;have h42:=DD e46.g h42;refine cC (Er:=Er) (ao (fun _=>.inr ⟨by decide,by decide⟩) (ao (fun _=>⟨by decide,by decide⟩) aO))<|fun v53 W51 e52 h54=>?_;cases h54;have E0:=E0.trans e52;have hB31:=hB31.trans e52.g;have hs50:=hs50.trans e52.g;have o19:=o19.mono e52;have h42:=DD e52.g h42;exact hN49 ((a14.2/8)*8) W51 _ hs50 ⟨rfl,E0,o19⟩ hq
   ·intro W45 N48 e46 hN49 hq;have hs55:=e46.g;have E0:=E0.trans e46;have hB31:=hB31.trans e46.g;have o19:=o19.mono e46;have h42:=DD e46.g h42
    try dsimp only[aV]
    exact hN49 a14.2 W45 _ hs55 ⟨rfl,E0,o19⟩ hq
   ·intro s56 W57 sg58 hS59 iv hq;obtain⟨rfl,E0,o63⟩:=iv;have hB31:=hB31.trans hS59;have h42:=DD hS59 h42;refine bI (Er:=Er) (Iv:=fun(s79:Int)(W80:Wd)(g81:St)=>g81=[some Z0r,some<|.int Z05,some<|.bl Z1z,some<|.ref p3,some v12,some v41,some<|.int s79,d21,d22]/\Ext W0 W80/\Ow (qB K) W80 p3 s15) (ar (cB (ao (fun _=>by decide) aO) ah)) (DE hq) ?_ ?_ ?_
    ·intro W64 N67 e65 hN68 hq;have hs69:=e65.g;have E0:=E0.trans e65;have hB31:=hB31.trans e65.g;have o63:=o63.mono e65;have h42:=DD e65.g h42;refine cC (Er:=Er) (aN (ao (fun _=>.inr ⟨by decide,by decide⟩) (ao (fun _=>⟨by decide,by decide⟩) aO)) ah)<|fun v72 W70 e71 h73=>?_;cases h73;have E0:=E0.trans e71;have hB31:=hB31.trans e71.g;have hs69:=hs69.trans e71.g;have o63:=o63.mono e71;have h42:=DD e71.g h42;exact hN68 (((s56/8)*8)+(7:Int)) W70 _ hs69 ⟨rfl,E0,o63⟩ hq
    ·intro W64 N67 e65 hN68 hq;have hs74:=e65.g;have E0:=E0.trans e65;have hB31:=hB31.trans e65.g;have o63:=o63.mono e65;have h42:=DD e65.g h42
     try dsimp only[aV]
     exact hN68 s56 W64 _ hs74 ⟨rfl,E0,o63⟩ hq
    ·intro s75 W76 sg77 hS78 iv hq;obtain⟨rfl,E0,o82⟩:=iv;have hB31:=hB31.trans hS78;have h42:=DD hS78 h42;refine cm (Er:=Er) (fZ<|bM (aK (f:=fun(b:Pl)=>b.1) gD<|aF h42)<|bM (aK (f:=fun(b:Pl)=>b.2.1) gP<|aF h42)<|bM (aK (f:=fun(b:Pl)=>b.2.2) gQ<|aF h42)<|fY (R:=isS))<|fun p85 W83 e84 hp86 o87=>?_;have ne88:=o82.ne hp86;have fr89:=aR E0.h hp86;have E0:=E0.trans e84;have hB31:=hB31.trans e84.g;have o82:=o82.mono e84;have h42:=DD e84.g h42;refine bI (Er:=Er) (Iv:=fun(s114:(List Tx))(W115:Wd)(g116:St)=>∃(d118:Option V),g116=[some Z0r,some<|.int Z05,some<|.bl Z1z,some<|.ref p3,some v12,some v41,some<|.int s75,some<|.ref p85,d118]/\Ext W0 W115/\Ow isS W115 p85 s114/\Ow (qB K) W115 p3 s15) (fG (ar<|bH aO ah) (ar (bH (ao (fun _=>by decide) aO) ah))) (DE hq) ?_ ?_ ?_
     ·intro W91 N94 e92 hN95 hq;have hs96:=e92.g;have E0:=E0.trans e92;have hB31:=hB31.trans e92.g;have o82:=o82.mono e92;have h42:=DD e92.g h42;have o87:=o87.mono e92;refine ak (Er:=Er) (aP (x:=DP "abcdefghijklmnopqrstuvwxyza") (l:=[97,98,99,100,101,102,103,104,105,106,107,108,109,110,111,112,113,114,115,116,117,118,119,120,121,122,97]) (eP _ _ (by decide +kernel)))<|fun v99 W97 e98 h100=>?_;cases h100;have E0:=E0.trans e98;have hB31:=hB31.trans e98.g;have hs96:=hs96.trans e98.g;have o82:=o82.mono e98;have h42:=DD e98.g h42;have o87:=o87.mono e98;refine i6 (Er:=Er) o87 (bE cD (aN (hX cD (bL (cR o87) (ao (fun _=>by decide) aO))) ah)) (ao (fun _=>by decide) aO)<|(DE hq).imp fun y108 hq W104 mu105 o106=>?_;have E0:=mu105.e _ E0 fr89;have hB31:=hB31.trans mu105.g;have hs96:=hs96.trans mu105.g;have o82:=mu105.ow ne88 o82;have h42:=DD mu105.g h42;exact hN95 y108 W104 _ hs96 ⟨_,rfl,E0,o106,o82⟩ hq
     ·intro W91 N94 e92 hN95 hq;have hs109:=e92.g;have E0:=E0.trans e92;have hB31:=hB31.trans e92.g;have o82:=o82.mono e92;have h42:=DD e92.g h42;have o87:=o87.mono e92
      try dsimp only[aV]
      exact hN95 [a14.1.1,a14.1.2.1,a14.1.2.2] W91 _ hs109 ⟨_,rfl,E0,o87,o82⟩ hq
     ·intro s110 W111 sg112 hS113 iv hq;obtain⟨d118,rfl,E0,o117,o119⟩:=iv;have hB31:=hB31.trans hS113;have h42:=DD hS113 h42;refine bI (Er:=Er) (Iv:=fun(s139:(List Tx))(W140:Wd)(g141:St)=>g141=[some Z0r,some<|.int Z05,some<|.bl Z1z,some<|.ref p3,some v12,some v41,some<|.int s75,some<|.ref p85,d118]/\Ext W0 W140/\Ow isS W140 p85 s139/\Ow (qB K) W140 p3 s15) (fG (ar<|bH aO ah) (ar (cB (ao (fun _=>by decide) aO) ah))) (DE hq) ?_ ?_ ?_
      ·intro W121 N124 e122 hN125 hq;have hs126:=e122.g;have E0:=E0.trans e122;have hB31:=hB31.trans e122.g;have o119:=o119.mono e122;have h42:=DD e122.g h42;have o117:=o117.mono e122;refine i6 (Er:=Er) o117 (bE (aP (x:=DP "zos") (l:=[122,111,115]) (eP _ _ (by decide +kernel))) (hX (aP (x:=DP "szo") (l:=[115,122,111]) (eP _ _ (by decide +kernel)))<|bL (cR o117) ah)) ah<|(DE hq).imp fun y133 hq W129 mu130 o131=>?_;have E0:=mu130.e _ E0 fr89;have hB31:=hB31.trans mu130.g;have hs126:=hs126.trans mu130.g;have o119:=mu130.ow ne88 o119;have h42:=DD mu130.g h42;exact hN125 y133 W129 _ hs126 ⟨rfl,E0,o131,o119⟩ hq
      ·intro W121 N124 e122 hN125 hq;have hs134:=e122.g;have E0:=E0.trans e122;have hB31:=hB31.trans e122.g;have o119:=o119.mono e122;have h42:=DD e122.g h42;have o117:=o117.mono e122
       try dsimp only[aV]
       exact hN125 s110 W121 _ hs134 ⟨rfl,E0,o117,o119⟩ hq
      ·intro s135 W136 sg137 hS138 iv hq;obtain⟨rfl,E0,o142,o143⟩:=iv;have hB31:=hB31.trans hS138;have h42:=DD hS138 h42;obtain⟨W144,hH145,E0,hS146,h148,hk147⟩:=o142.frz E0 fr89;rw[<-hH145];have hB31:=hB31.trans hS146;have o143:=o143.keep (by rw[hH145]) hS146<|hk147 _ ne88;have h42:=DD hS146 h42;refine fH (Er:=Er) o143 (nj (Ir (dH (gR (dh<|aF h148)<|dh<|FR<|fZ<|bM ah<|bM ah<|bM ah<|fY (R:=isI)) fun W151 a149 v150 e152 h153 Q161 k162=>by
        refine i5 h153 fun v154 v156 h155 h157=>?_;cases h155;cases h157;exact⟨by simp[Keep,bh],((jJ (ar (cB (ao (fun _=>by decide) (qb aO aO)) ah)) cD (aP (x:=DP "?") (l:=[63]) (eP _ _ (by decide +kernel)))):EV Er _ [some (.str (sOf a149.1)),some (.int a149.2),some (.int s75)] _ _ _) _ (.refl _) _ k162⟩))) ((DE hq).imp fun y167 hq W164 mu165 o166=>?_)
       have E0:=mu165.e _ E0 fr6;have hB31:=hB31.trans mu165.g;have h42:=DD mu165.g h42;have h148:=DD mu165.g h148
       try dsimp only
       refine bA (W:=W164) y167 hB31 ?_ hq;exact⟨_,_,_,_,rfl,E0,o166⟩
  ·intro s169 W170 sg171 hS172 iv hq;obtain⟨d20,d21,d22,d23,rfl,E0,o19⟩:=iv;exact⟨.ref p3,rfl,hq p3 W170 E0 fr6 o19⟩
theorem D7{f:Addr}{fd:Ee}(F:Fun K "_law_turnover" "_law_turnover" (tp 44) f fd):FnOk P w K mg base CX0 (1) f fd ["_law_card_here"] (cY (qA K) (rs<|qA K)<|BK):=by
 have SC:FnScope ["_law_card_here","_law_holes_here"] ["_law_card_here"] (defScope<|tp 44):=by walk_at "F"
 refine F.ok SC (fun vs H Q E h=>?_)<|fun cdv A outer s H vs Q E hr h=>?_;·obtain⟨_,_,_,_,rfl,_⟩:=h;rfl
 ·obtain⟨W0,Z01,Z08,rfl,rfl,Z00,Er,hq⟩:=h;refine⟨_,(ae (bW 1<|aw (aA (K:=K) rfl) (pv 0) aa<|fun _ _=>rfl)
   (ag (ax (bJ (a5 (aw bD aM (fo (K:=K) rfl rfl aM (a5 (aw (aA (K:=K) rfl) (pv 0) aa (fun _ _=>rfl)) af)) (fun _ _=>rfl)) (a5 (aj df (aj df (aj df (aw bD (pv 1) aa (fun _ _=>rfl)) (aw bD (pv 1) aa (fun _ _=>rfl))) (aw bD (pv 1) aa (fun _ _=>rfl))) (aw bD (pv 1) aa (fun _ _=>rfl))) (a5 (aj aJ (aj fA aa (aw (aA (K:=K) rfl) (pv 0) aa (fun _ _=>rfl))) aa) af))))))),?_⟩
  have E0:Ext W0 W0:=.refl W0;unfold BK at hq;refine ak (Er:=Er) (aK (f:=fun(b:Cd)=>b.2.1) gP<|aF Z00)<|fun v3 W1 e2 h4=>?_;cases h4;have E0:=E0.trans e2;have Z00:=DD e2.g Z00;exact aE (Er:=Er) (bR (K:=K) (bE (aP (x:=DP "ZS") (l:=[90,83]) (eP _ _ (by decide +kernel))) (hX (aP (x:=DP "SZ") (l:=[83,90]) (eP _ _ (by decide +kernel)))<|aK (f:=fun(b:Cd)=>b.1) gD<|aF Z00)) (gq (gq (gq (bE cD ah)<|bE cD ah)<|bE cD ah)<|bE cD ah) (ao (fun _=>by decide)<|aN ah<|aK (f:=fun(b:Cd)=>b.2.2) gQ<|aF Z00))<|En hq fun y14 hq v15 W16 e17 h18=>hq v15 W16 (E0.trans e17) h18
theorem D8{f:Addr}{fd:Ee}(F:Fun K "_law_back" "_law_back" (tp 45) f fd):FnOk P w K mg base CX0 (1) f fd ["_law_turns_here"] (cY isS (rs isS)<|BL):=by
 have SC:FnScope ["_law_turns_here"] ["_law_turns_here"] (defScope<|tp 45):=by walk_at "F"
 refine F.ok SC (fun vs H Q E h=>?_)<|fun cdv A outer s H vs Q E hr h=>?_;·obtain⟨_,_,_,_,rfl,_⟩:=h;rfl
 ·obtain⟨W0,Z0c,_,rfl,rfl,Z0L,Er,hq⟩:=h;cases Z0L;refine⟨_,(ag (ax (jP (K:=K) rfl aM (a5 (dG (N:=["_law_turn"]) (cap:=[none]) (gZ rfl (by decide +kernel) rfl (by decide +kernel) (by rfl) (by rfl)) rfl (iL<|pv 0) (fun _ _ _ _=>(bo (i:=0) (show Fg (["_law_turn"]:List Str) by decide +kernel) rfl (by walk_at "L"))) (fun _ _ _ _=>cq)<|fun _ _ _ _=>(aw bD aM (fo (K:=K) rfl rfl aM<|a5 (pv 0) af)<|fun _ _=>rfl)) af)))),?_⟩;have E0:Ext W0 W0:=.refl W0;rw[show L2.start ["_law_turns_here"] [.str (sOf Z0c)]=[some (.str<|sOf Z0c)]from rfl];unfold BL at hq;exact aE (Er:=Er) (lU (eP _ _ (by decide +kernel)) (Ir (dH (iQ cD) fun W3 a1 v2 e4 h5 Q9 k10=>by
   cases h5;refine gn ?_;exact⟨by simp[Keep,bh],((bE (aP (x:=DP "fib") (l:=[102,105,98]) (eP _ _ (by decide +kernel))) (hX (aP (x:=DP "bif") (l:=[98,105,102]) (eP _ _ (by decide +kernel))) cD)):EV Er _ [some (.str (sOf a1))] _ _ _) _ (.refl _) _ k10⟩))) (En hq fun y12 hq v13 W14 e15 h16=>hq v13 W14 (E0.trans e15) h16)
theorem Dc{f:Addr}{fd:Ee}(F:Fun K "_law_roll" "_law_roll" (tp 46) f fd)(h_range:mg "range"=none):FnOk P w K mg base CX0 (1) f fd ["_law_card_here","_law_many"] (bz (qA K) isI (rs<|qA K)<|BM):=by
 have SC:FnScope ["_law_card_here","_law_many","_law_holes_here"] ["_law_card_here","_law_many"] (defScope<|tp 46):=by walk_at "F"
 refine F.ok SC (fun vs H Q E h=>?_)<|fun cdv A outer s H vs Q E hr h=>?_;·obtain⟨_,_,_,_,_,_,rfl,_⟩:=h;rfl
 ·obtain⟨W0,Z01,Z0y,Z08,_,rfl,rfl,Z00,Z2v,Er,hq⟩:=h;cases Z2v
  refine⟨_,(ae (bW 2 (jP (K:=K) rfl aM (a5 (dG (N:=["_law_k","_law_card_here","_law_many"]) (cap:=[none,some 0,some 1]) (gZ rfl (by decide +kernel) rfl (by decide +kernel) (by rfl) (by rfl)) rfl (iH rfl h_range<|a5 aa af) (fun _ _ _ _=>(bo (i:=0) (show Fg (["_law_k","_law_card_here","_law_many"]:List Str) by decide +kernel) rfl (by walk_at "L"))) (fun _ _ _ _=>cq)<|fun _ _ _ _=>(aw bD (aw (aA (K:=K) rfl) (pv 1) aa<|fun _ _=>rfl) (aj aJ (aj fA (pv 0)<|pv 2) aa)<|fun _ _=>rfl)) af)))
   (ag (ax (bJ (a5 (aw (aA (K:=K) rfl) (pv 0) aa (fun _ _=>rfl)) (a5 (pv 2) (a5 (aj aJ (aj aX (aw (aA (K:=K) rfl) (pv 0) aa (fun _ _=>rfl)) (pv 1)) aa) af))))))),?_⟩
  have E0:Ext W0 W0:=.refl W0;rw[show L2.start ["_law_card_here","_law_many","_law_holes_here"] [Z08,.int Z0y]=[some Z08,some<|.int Z0y,none]from rfl];unfold BM at hq;refine ak (Er:=Er) (lU (eP _ _ (by decide +kernel)) (Ir (dH (jN ah) fun W5 a3 v4 e6 h7 Q11 k12=>by
   have h8:=EG (R:=sh (qA K)) e6 Z00;cases h7;refine gn ?_;exact⟨by simp[Keep,bh],((bE (aK (f:=fun(b:Cd)=>b.2.1) gP (aF h8)) (ao (fun _=>by decide) (aN aO aO))):EV Er _ [some (.int a3),some Z08,some (.int Z0y)] _ _ _) _ (.refl _) _ k12⟩))) ((DE hq).imp fun y15 hq v16 W1 e2 h17=>?_)
  cases h17;have E0:=E0.trans e2;have Z00:=DD e2.g Z00;exact aE (Er:=Er) (bR (K:=K) (aK (f:=fun(b:Cd)=>b.1) gD<|aF Z00) cD (ao (fun _=>by decide)<|aN (aK (f:=fun(b:Cd)=>b.2.2) gQ<|aF Z00) aO))<|fun v18 W19 e20 h21=>hq v18 W19 (E0.trans e20) h21
theorem Dd{f:Addr}{fd:Ee}(F:Fun K "_law_seen" "_law_seen" (tp 47) f fd){jr:Cd->Tx->Res Cd}(Z10:Cal P w K mg base "_law_behind" ["_law_card_here","_law_turn"] (2) (bz (qA K) isS (rs<|qA K) jr))(h_sorted:mg "sorted"=none):FnOk P w K mg base CX0 (3) f fd ["_law_card_here","_law_turns_here"] (bz (qA K) isS (ro isI)<|BN jr):=by
 have SC:FnScope ["_law_card_here","_law_turns_here","_law_out","_law_turn","_law_hole"] ["_law_card_here","_law_turns_here"] (defScope<|tp 47):=by walk_at "F"
 refine F.ok SC (fun vs H Q E h=>?_)<|fun cdv A outer s H vs Q E hr h=>?_;·obtain⟨_,_,_,_,_,_,rfl,_⟩:=h;rfl
 ·obtain⟨W0,Z01,Z0c,Z08,_,rfl,rfl,Z00,Z0L,Er,hq⟩:=h;cases Z0L;refine⟨_,(ae (bW 2<|bK af)
   (ae (bC Ec rfl (iL<|pv 1) (du 3) (ae (bW 0<|cv Z10<|a5 (pv 0)<|a5 (pv 3) af)
   (ag (bC Ec rfl (bu (K:=K) rfl (bK (a5 (aw (aA (K:=K) rfl) (pv 0) aa (fun _ _=>rfl)) (a5 (aj aJ (aj aX (aw (aA (K:=K) rfl) (pv 0) aa (fun _ _=>rfl)) aa) aa) af)))) (du 4) (ag (aT (aq (gH (K:=K) rfl) (pv 4) (pv 2) (by with_unfolding_all rfl)) (ag (dF (bY (K:=K) rfl (pv 2) (a5 (pv 4) af)))) aG))))))
   (ag (ax (aB (lP (K:=K) rfl) (by rfl) h_sorted JG (a5 (pv 2) af)))))),?_⟩
  have E0:Ext W0 W0:=.refl W0;unfold BN at hq;refine cm (Er:=Er) (eT (R:=isI))<|fun p3 W1 e2 hp4 o5=>?_;have fr6:=aR E0.h hp4;have E0:=E0.trans e2;have Z00:=DD e2.g Z00;refine cx (Er:=Er) (f:=(Be jr)) (s0:=(Z01,([]:List Int))) (Iv:=fun(s9:(Cd×(List Int)))(W10:Wd)(g11:St)=>∃(v12:V)(d15:Option V)(d16:Option V),g11=[some v12,some<|.str<|sOf Z0c,some<|.ref p3,d16,d15]/\Ext W0 W10/\(qA K) W10.G s9.1 v12/\Ow isI W10 p3 s9.2) (iQ cD) (DE hq) ?_ ?_ ?_
  ·intro W28 e29;have E0:=E0.trans e29;have Z00:=DD e29.g Z00;have o5:=o5.mono e29;exact⟨_,_,_,rfl,E0,Z00,o5⟩
  ·intro Wb17 W18 W19 a7 v20 s8 sg21 P22 hW23 hB24 iv e25 h26 hq;obtain⟨v12,d15,d16,rfl,E0,h13,o14⟩:=iv;have E0:=E0.trans e25;have hB24:=hB24.trans e25.g;have o14:=o14.mono e25;have h13:=DD e25.g h13;cases h26;refine gn (σ':=[some v12,some<|.str<|sOf Z0c,some<|.ref p3,some<|.str<|sOf a7,d15]) ?_;unfold Be at hq;refine ak (Er:=Er) (aQ (aF h13) cD)<|(DE hq).imp fun y34 hq v35 W32 e33 h36=>?_;have E0:=E0.trans e33;have hB24:=hB24.trans e33.g;have o14:=o14.mono e33;refine oR (Er:=Er) (f:=Ac) (s0:=s8.2) (Iv:=fun(s39:(List Int))(W40:Wd)(g41:St)=>∃(d43:Option V),g41=[some v35,some<|.str<|sOf Z0c,some<|.ref p3,some<|.str<|sOf a7,d43]/\Ext W0 W40/\Ow isI W40 p3 s39) (bN (FR (fZ (bM (aK (f:=fun(b:Cd)=>b.2.2) gQ<|aF h36) (bM (ao (fun _=>by decide)<|aN (aK (f:=fun(b:Cd)=>b.2.2) gQ<|aF h36) ah)<|fY (R:=isI)))))) (DE hq) ?_ ?_ ?_
   ·intro W55 e56;have E0:=E0.trans e56;have hB24:=hB24.trans e56.g;have o14:=o14.mono e56;have h36:=DD e56.g h36;exact⟨_,rfl,E0,o14⟩
   ·intro Wb44 W45 W46 a37 v47 s38 sg48 P49 hW50 hB51 iv e52 h53 hq;obtain⟨d43,rfl,E0,o42⟩:=iv;have hB24:=hB24.trans hW50;have h36:=DD hW50 h36;have E0:=E0.trans e52;have hB24:=hB24.trans e52.g;have hB51:=hB51.trans e52.g;have o42:=o42.mono e52;have h36:=DD e52.g h36;cases h53;refine gn (σ':=[some v35,some<|.str<|sOf Z0c,some<|.ref p3,some<|.str<|sOf a7,some<|.int a37]) ?_;unfold Ac at hq;refine iR (Er:=Er) (Iv:=fun(s74:(List Int))(W75:Wd)(g76:St)=>g76=[some v35,some<|.str<|sOf Z0c,some<|.ref p3,some<|.str<|sOf a7,some<|.int a37]/\Ext W0 W75/\Ow isI W75 p3 s74) (ar<|jO aO<|cR o42) (DE hq) ?_ ?_ ?_
    ·intro W59 N62 e60 hN63 hq;have hs64:=e60.g;have E0:=E0.trans e60;have hB24:=hB24.trans e60.g;have hB51:=hB51.trans e60.g;have o42:=o42.mono e60;have h36:=DD e60.g h36;refine fH (Er:=Er) o42 aO<|(DE hq).imp fun y68 hq W65 mu66 o67=>?_;have E0:=mu66.e _ E0 fr6;have hB24:=hB24.trans mu66.g;have hB51:=hB51.trans mu66.g;have hs64:=hs64.trans mu66.g;have h36:=DD mu66.g h36;exact hN63 y68 W65 _ hs64 ⟨rfl,E0,o67⟩ hq
    ·intro W59 N62 e60 hN63 hq;have hs69:=e60.g;have E0:=E0.trans e60;have hB24:=hB24.trans e60.g;have hB51:=hB51.trans e60.g;have o42:=o42.mono e60;have h36:=DD e60.g h36
     try dsimp only[aV]
     exact hN63 s38 W59 _ hs69 ⟨rfl,E0,o42⟩ hq
    ·intro s70 W71 sg72 hS73 iv hq;obtain⟨rfl,E0,o77⟩:=iv;have hB24:=hB24.trans hS73;have hB51:=hB51.trans hS73;have h36:=DD hS73 h36
     try dsimp only
     refine bA (W:=W71) s70 hB51 ?_ hq;exact⟨_,rfl,E0,o77⟩
   ·intro s78 W79 sg80 hS81 iv hq;obtain⟨d43,rfl,E0,o42⟩:=iv;have hB24:=hB24.trans hS81;have h36:=DD hS81 h36
    try dsimp only
    refine bA (W:=W79) (y34,s78) hB24 ?_ hq;exact⟨_,_,_,rfl,E0,h36,o42⟩
  ·intro s82 W83 sg84 hS85 iv hq;obtain⟨v12,d15,d16,rfl,E0,h13,o14⟩:=iv;exact jg (Er:=Er) (uo<|cR o14)<|En hq fun y86 hq p87 W88 e89 hp90 o91=>hq p87 W88 (E0.trans e89) (aR E0.h hp90) o91
theorem De{f:Addr}{fd:Ee}(F:Fun K "_law_kin" "_law_kin" (tp 48) f fd){xw:Cd->Res Cd}{xx:Tx->Res Tx}{xA:Cd->Int->Res Cd}{xB:Cd->Tx->Res (List Int)}(Z22:Cal P w K mg base "_law_turnover" ["_law_card_here"] (1) (cY (qA K) (rs<|qA K) xw))(Z2R:Cal P w K mg base "_law_back" ["_law_turns_here"] (1) (cY isS (rs isS) xx))(Z2S:Cal P w K mg base "_law_roll" ["_law_card_here","_law_many"] (1) (bz (qA K) isI (rs<|qA K) xA))(Z2T:Cal P w K mg base "_law_seen" ["_law_card_here","_law_turns_here"] (3) (bz (qA K) isS (ro isI) xB))(h_range:mg "range"=none):FnOk P w K mg base CX0 (4) f fd ["_law_card_here","_law_turns_here","_law_cell"] (cI (qA K) isS isI (rs<|isT2 K (qA K) isS)<|BO xw xx xA xB):=by
 have SC:FnScope ["_law_card_here","_law_turns_here","_law_cell","_law_known","_law_hole","_law_colour"] ["_law_card_here","_law_turns_here","_law_cell"] (defScope<|tp 48):=by walk_at "F"
 refine F.ok SC (fun vs H Q E h=>?_)<|fun cdv A outer s H vs Q E hr h=>?_;·obtain⟨_,_,_,_,_,_,_,_,rfl,_⟩:=h;rfl
 ·obtain⟨W0,Z01,Z0c,Z05,Z08,_,_,rfl,rfl,Z00,Z0L,Z0F,Er,hq⟩:=h;cases Z0L;cases Z0F;refine⟨_,(ae (aT (aq cb (aj aJ (pv 2) aa) aa<|ay _) (ae (bW 0<|cv Z22<|a5 (pv 0) af)
   (ag (bW 1 (cv Z2R (a5 (pv 1) af))))) aG)
   (ae (bW 0<|cv Z2S<|a5 (pv 0)<|a5 (aj aJ (aj aY (pv 2) aa) aa) af)
   (ae (aT (aq cb (aj aJ (aj aY (pv 2) aa) aa) aa<|ay _) (ae (bW 3<|cv Z2T<|a5 (pv 0)<|a5 (pv 1) af)
   (ag (bC Ec rfl (iH rfl h_range<|a5 aa af) (du 4) (ag (aT (aq (gH (K:=K) rfl) (pv 4) (pv 3) (by with_unfolding_all rfl)) (ae (bW 5<|aw bD aM (aj aJ (aj aX (aj aY (pv 2) aa)<|aj dZ aa<|pv 4) aa)<|fun _ _=>rfl)
   (ag (bW 0 (bJ (a5 (aw (aA (K:=K) rfl) (pv 0) aa (fun _ _=>rfl)) (a5 (aj df (aj df (ee tP (aw (aA (K:=K) rfl) (pv 0) aa (fun _ _=>rfl)) fB (eO (pv 4))) (pv 5)) (ee tP (aw (aA (K:=K) rfl) (pv 0) aa (fun _ _=>rfl)) (eO (aj aX (pv 4) aa)) fB)) (a5 (aw (aA (K:=K) rfl) (pv 0) aa (fun _ _=>rfl)) af))))))) aG))))) aG)
   (ag (ax (bJ (a5 (pv 0) (a5 (pv 1) af)))))))),?_⟩
  have E0:Ext W0 W0:=.refl W0;unfold BO at hq;refine bI (Er:=Er) (Iv:=fun(s22:(Cd×Tx))(W23:Wd)(g24:St)=>∃(v25:V),g24=[some v25,some<|.str<|sOf s22.2,some<|.int Z05,none,none,none]/\Ext W0 W23/\(qA K) W23.G s22.1 v25) (ar (cB (ao (fun _=>by decide) aO) ah)) (DE hq) ?_ ?_ ?_
  ·intro W1 N4 e2 hN5 hq;have hs6:=e2.g;have E0:=E0.trans e2;have Z00:=DD e2.g Z00;refine ak (Er:=Er) (cw<|aF Z00)<|(DE hq).imp fun y9 hq v10 W7 e8 h11=>?_;have E0:=E0.trans e8;have hs6:=hs6.trans e8.g;refine cC (Er:=Er) (cw cD)<|(DE hq).imp fun y14 hq v15 W12 e13 h16=>?_;cases h16;have E0:=E0.trans e13;have hs6:=hs6.trans e13.g;have h11:=DD e13.g h11;exact hN5 (y9,y14) W12 _ hs6 ⟨_,rfl,E0,h11⟩ hq
  ·intro W1 N4 e2 hN5 hq;have hs17:=e2.g;have E0:=E0.trans e2;have Z00:=DD e2.g Z00
   try dsimp only[aV]
   exact hN5 (Z01,Z0c) W1 _ hs17 ⟨_,rfl,E0,Z00⟩ hq
  ·intro s18 W19 sg20 hS21 iv hq;obtain⟨v25,rfl,E0,h26⟩:=iv;refine ak (Er:=Er) (aQ (aF h26) (ao (fun _=>by decide) (ao (fun _=>⟨by decide,by decide⟩) aO)))<|(DE hq).imp fun y29 hq v30 W27 e28 h31=>?_;have E0:=E0.trans e28;refine bI (Er:=Er) (Iv:=fun(s111:Cd)(W112:Wd)(g113:St)=>∃(v114:V)(d116:Option V)(d117:Option V)(d118:Option V),g113=[some v114,some<|.str<|sOf s18.2,some<|.int Z05,d116,d117,d118]/\Ext W0 W112/\(qA K) W112.G s111 v114) (ar (cB (ao (fun _=>by decide) (ao (fun _=>⟨by decide,by decide⟩) aO)) ah)) (DE hq) ?_ ?_ ?_
   ·intro W32 N35 e33 hN36 hq;have hs37:=e33.g;have E0:=E0.trans e33;have h31:=DD e33.g h31;refine ak (Er:=Er) (FR<|gu (aF h31) cD)<|(DE hq).imp fun y40 hq v41 W38 e39 h42=>?_;have E0:=E0.trans e39;have hs37:=hs37.trans e39.g;have h31:=DD e39.g h31;refine oR (Er:=Er) (f:=(Ad Z05 y40)) (s0:=y29) (Iv:=fun(s45:Cd)(W46:Wd)(g47:St)=>∃(v48:V)(d50:Option V)(d51:Option V),g47=[some v48,some<|.str<|sOf s18.2,some<|.int Z05,some v41,d51,d50]/\Ext W0 W46/\(qA K) W46.G s45 v48) (jN ah) (DE hq) ?_ ?_ ?_
    ·intro W63 e64;have E0:=E0.trans e64;have hs37:=hs37.trans e64.g;have h31:=DD e64.g h31;have h42:=DD e64.g h42;exact⟨_,_,_,rfl,E0,h31⟩
    ·intro Wb52 W53 W54 a43 v55 s44 sg56 P57 hW58 hB59 iv e60 h61 hq;obtain⟨v48,d50,d51,rfl,E0,h49⟩:=iv;have hs37:=hs37.trans hW58;have h42:=DD hW58 h42;have E0:=E0.trans e60;have hs37:=hs37.trans e60.g;have hB59:=hB59.trans e60.g;have h42:=DD e60.g h42;have h49:=DD e60.g h49;cases h61;refine gn (σ':=[some v48,some<|.str<|sOf s18.2,some<|.int Z05,some v41,some<|.int a43,d50]) ?_;unfold Ad at hq;refine iR (Er:=Er) (Iv:=fun(s95:Cd)(W96:Wd)(g97:St)=>∃(v98:V)(d100:Option V),g97=[some v98,some<|.str<|sOf s18.2,some<|.int Z05,some v41,some<|.int a43,d100]/\Ext W0 W96/\(qA K) W96.G s95 v98) (ar<|jO aO<|FW<|aF h42) (DE hq) ?_ ?_ ?_
     ·intro W67 N70 e68 hN71 hq;have hs72:=e68.g;have E0:=E0.trans e68;have hs37:=hs37.trans e68.g;have hB59:=hB59.trans e68.g;have h42:=DD e68.g h42;have h49:=DD e68.g h49;refine ak (Er:=Er) (bE (aP (x:=DP "abcdefghijklmnopqrstuvwxyz") (l:=[97,98,99,100,101,102,103,104,105,106,107,108,109,110,111,112,113,114,115,116,117,118,119,120,121,122]) (eP _ _ (by decide +kernel))) (ao (fun _=>by decide) (aN (ao (fun _=>⟨by decide,by decide⟩) aO)<|iO ah aO)))<|(DE hq).imp fun y78 hq v79 W73 e74 h80=>?_;cases h80;have E0:=E0.trans e74;have hs37:=hs37.trans e74.g;have hB59:=hB59.trans e74.g;have hs72:=hs72.trans e74.g;have h42:=DD e74.g h42;have h49:=DD e74.g h49;refine cC (Er:=Er) (bR (K:=K) (aK (f:=fun(b:Cd)=>b.1) gD<|aF h49) (gq (gq (qc (aK (f:=fun(b:Cd)=>b.2.1) gP<|aF h49) jK<|jL aO) cD)<|qc (aK (f:=fun(b:Cd)=>b.2.1) gP<|aF h49) (jL<|aN aO ah) jK)<|aK (f:=fun(b:Cd)=>b.2.2) gQ<|aF h49)<|(DE hq).imp fun y87 hq v88 W81 e82 h89=>?_;have E0:=E0.trans e82;have hs37:=hs37.trans e82.g;have hB59:=hB59.trans e82.g;have hs72:=hs72.trans e82.g;have h42:=DD e82.g h42;exact hN71 y87 W81 _ hs72 ⟨_,_,rfl,E0,h89⟩ hq
     ·intro W67 N70 e68 hN71 hq;have hs90:=e68.g;have E0:=E0.trans e68;have hs37:=hs37.trans e68.g;have hB59:=hB59.trans e68.g;have h42:=DD e68.g h42;have h49:=DD e68.g h49
      try dsimp only[aV]
      exact hN71 s44 W67 _ hs90 ⟨_,_,rfl,E0,h49⟩ hq
     ·intro s91 W92 sg93 hS94 iv hq;obtain⟨v98,d100,rfl,E0,h99⟩:=iv;have hs37:=hs37.trans hS94;have hB59:=hB59.trans hS94;have h42:=DD hS94 h42
      try dsimp only
      refine bA (W:=W92) s91 hB59 ?_ hq;exact⟨_,_,_,rfl,E0,h99⟩
    ·intro s102 W103 sg104 hS105 iv hq;obtain⟨v48,d50,d51,rfl,E0,h49⟩:=iv;have hs37:=hs37.trans hS105;exact hN36 s102 W103 _ hs37 ⟨_,_,_,_,rfl,E0,h49⟩ hq
   ·intro W32 N35 e33 hN36 hq;have hs106:=e33.g;have E0:=E0.trans e33;have h31:=DD e33.g h31
    try dsimp only[aV]
    exact hN36 y29 W32 _ hs106 ⟨_,_,_,_,rfl,E0,h31⟩ hq
   ·intro s107 W108 sg109 hS110 iv hq;obtain⟨v114,d116,d117,d118,rfl,E0,h115⟩:=iv;exact aE (Er:=Er) (gr (K:=K) (aF h115) cD)<|fun v119 W120 e121 h122=>hq v119 W120 (E0.trans e121) h122
theorem Df{f:Addr}{fd:Ee}(F:Fun K "_law_case" "_law_case" (tp 49) f fd){wc:Int->Res Cd}{gT:List Int->Int->Res Int}{xt:Int->Int->Res Tx}{pj:Cd->Tx->Res (List Pl)}{xu:(List Pl)->Int->Res (List Pl)}{xv:(List Pl)->Int->Bool->Res (List Pl)}{xC:Cd->Tx->Int->Res (Cd×Tx)}(Z2h:Cal P w K mg base "_law_card" ["_law_cell"] (3) (cY isI (rs<|qA K) wc))(Z0C:Cal P w K mg base "_law_at" ["_law_script","_law_k"] (1) (bz (isScr K) isI (rs isI) gT))(Z2y:Cal P w K mg base "_law_turns" ["_law_cell","_law_many"] (2) (bz isI isI (rs isS) xt))(Z11:Cal P w K mg base "_law_places" ["_law_card_here","_law_turns_here"] (3) (bz (qA K) isS (ro<|qB K) pj))(Z2U:Cal P w K mg base "_law_long" ["_law_places_here","_law_cell"] (2) (bz (qD K) isI (ro<|qB K) xu))(Z2z:Cal P w K mg base "_law_marks" ["_law_places_here","_law_cell","_law_lies"] (2) (cI (qD K) isI isB (ro<|qB K) xv))(Z3n:Cal P w K mg base "_law_kin" ["_law_card_here","_law_turns_here","_law_cell"] (4) (cI (qA K) isS isI (rs<|isT2 K (qA K) isS) xC)):FnOk P w K mg base CX0 (5) f fd ["_law_script","_law_most"] (bz (isScr K) isI (rs<|isT3 K (qA K) (qD K) isI)<|BP wc gT xt pj xu xv xC):=by
 have SC:FnScope ["_law_script","_law_most","_law_card_here","_law_size","_law_cell","_law_many","_law_turns_here","_law_places_here","_law_strip","_law_side"] ["_law_script","_law_most"] (defScope<|tp 49):=by walk_at "F"
 refine F.ok SC (fun vs H Q E h=>?_)<|fun cdv A outer s H vs Q E hr h=>?_;·obtain⟨_,_,_,_,_,_,rfl,_⟩:=h;rfl
 ·obtain⟨W0,Z0n,Z1N,Z17,_,rfl,rfl,Z02,Z4E,Er,hq⟩:=h;cases Z4E;refine⟨_,(ae (bW 2<|cv Z2h<|a5 (cv Z0C<|a5 (pv 0)<|a5 aa af) af)
   (ae (bW 3<|cv Z0C<|a5 (pv 0)<|a5 aa af)
   (ae (bW 4<|cv Z0C<|a5 (pv 0)<|a5 aa af)
   (ae (bW 5<|aj aJ (pv 3)<|aj aX (pv 1) aa)
   (ae (aT (aq cb (aj aJ (aj aY (pv 3) aa) aa) aa<|ay _) (ag<|bW 5<|aj aX aa<|aj aJ (aj aY (pv 3) aa) aa) aG)
   (ae (aT (aq cb (aj aJ (aj aY (pv 3) aa) aa) aa<|ay _) (ag<|bW 5<|aj aX aa<|aj aJ (aj aY (pv 3) aa) aa) aG)
   (ae (bW 6<|cv Z2y<|a5 (cv Z0C<|a5 (pv 0)<|a5 aa af)<|a5 (pv 5) af)
   (ae (bW 7<|cv Z11<|a5 (pv 2)<|a5 (pv 6) af)
   (ae (aT (aq jw (pv 5) (pv 1)<|ay _) (ag<|bW 8<|cv Z2U<|a5 (pv 7)<|a5 (pv 4) af)<|ag<|bW 8<|cv Z2z<|a5 (pv 7)<|a5 (aj aY (pv 4) aa)<|a5 (cF cb (aj aJ (pv 4) aa) aa<|ay _) af)
   (ae (bW 9<|aj aY (cv Z0C<|a5 (pv 0)<|a5 aa af) aa)
   (ae (aT (aq cb (aj aJ (pv 9) aa) aa<|ay _) (ag<|bW 2<|aw (aA (K:=K) rfl) (cv Z3n<|a5 (pv 2)<|a5 (pv 6)<|a5 (aj aY (pv 9) aa) af) aa<|fun _ _=>rfl) aG)
   (ae (aT (aq cb (aj aJ (pv 9) aa) aa<|ay _) (ag<|bW 2<|cv Z2h<|a5 (aj aY (pv 9) aa) af) aG)
   (ag (ax (bJ (a5 (pv 2) (a5 (pv 8) (a5 (aj aJ (cv Z0C (a5 (pv 0) (a5 aa af))) aa) af)))))))))))))))))),?_⟩
  have E0:Ext W0 W0:=.refl W0;unfold BP at hq;refine ak (Er:=Er) (cw<|aQ (aF Z02) ah)<|(DE hq).imp fun y4 hq v5 W1 e2 h6=>?_;have E0:=E0.trans e2;have Z02:=DD e2.g Z02;refine ak (Er:=Er) (aQ (aF Z02) ah)<|(DE hq).imp fun y9 hq v10 W7 e8 h11=>?_;cases h11;have E0:=E0.trans e8;have Z02:=DD e8.g Z02;have h6:=DD e8.g h6;refine ak (Er:=Er) (aQ (aF Z02) ah)<|(DE hq).imp fun y14 hq v15 W12 e13 h16=>?_;cases h16;have E0:=E0.trans e13;have Z02:=DD e13.g Z02;have h6:=DD e13.g h6;refine ak (Er:=Er) (iP aO<|aN aO ah)<|(DE hq).imp fun y19 hq v20 W17 e18 h21=>?_;cases h21;have E0:=E0.trans e18;have Z02:=DD e18.g Z02;have h6:=DD e18.g h6;refine bI (Er:=Er) (Iv:=fun(s37:Int)(W38:Wd)(g39:St)=>g39=[some Z17,some<|.int Z1N,some v5,some<|.int y9,some<|.int y14,some<|.int s37,none,none,none,none]/\Ext W0 W38) (ar (cB (ao (fun _=>by decide) (ao (fun _=>⟨by decide,by decide⟩) aO)) ah)) (DE hq) ?_ ?_ ?_
  ·intro W22 N25 e23 hN26 hq;have hs27:=e23.g;have E0:=E0.trans e23;have Z02:=DD e23.g Z02;have h6:=DD e23.g h6;refine cC (Er:=Er) (aN ah (ao (fun _=>by decide) (ao (fun _=>⟨by decide,by decide⟩) aO)))<|fun v30 W28 e29 h31=>?_;cases h31;have E0:=E0.trans e29;have hs27:=hs27.trans e29.g;have Z02:=DD e29.g Z02;have h6:=DD e29.g h6;exact hN26 ((25:Int)+((y9/78)%36)) W28 _ hs27 ⟨rfl,E0⟩ hq
  ·intro W22 N25 e23 hN26 hq;have hs32:=e23.g;have E0:=E0.trans e23;have Z02:=DD e23.g Z02;have h6:=DD e23.g h6
   try dsimp only[aV]
   exact hN26 y19 W22 _ hs32 ⟨rfl,E0⟩ hq
  ·intro s33 W34 sg35 hS36 iv hq;obtain⟨rfl,E0⟩:=iv;have Z02:=DD hS36 Z02;have h6:=DD hS36 h6;refine bI (Er:=Er) (Iv:=fun(s55:Int)(W56:Wd)(g57:St)=>g57=[some Z17,some<|.int Z1N,some v5,some<|.int y9,some<|.int y14,some<|.int s55,none,none,none,none]/\Ext W0 W56) (ar (cB (ao (fun _=>by decide) (ao (fun _=>⟨by decide,by decide⟩) aO)) ah)) (DE hq) ?_ ?_ ?_
   ·intro W40 N43 e41 hN44 hq;have hs45:=e41.g;have E0:=E0.trans e41;have Z02:=DD e41.g Z02;have h6:=DD e41.g h6;refine cC (Er:=Er) (aN ah (ao (fun _=>by decide) (ao (fun _=>⟨by decide,by decide⟩) aO)))<|fun v48 W46 e47 h49=>?_;cases h49;have E0:=E0.trans e47;have hs45:=hs45.trans e47.g;have Z02:=DD e47.g Z02;have h6:=DD e47.g h6;exact hN44 ((13:Int)+((y9/78)%12)) W46 _ hs45 ⟨rfl,E0⟩ hq
   ·intro W40 N43 e41 hN44 hq;have hs50:=e41.g;have E0:=E0.trans e41;have Z02:=DD e41.g Z02;have h6:=DD e41.g h6
    try dsimp only[aV]
    exact hN44 s33 W40 _ hs50 ⟨rfl,E0⟩ hq
   ·intro s51 W52 sg53 hS54 iv hq;obtain⟨rfl,E0⟩:=iv;have Z02:=DD hS54 Z02;have h6:=DD hS54 h6;refine ak (Er:=Er) (aQ (aQ (aF Z02) ah) aO)<|(DE hq).imp fun y61 hq v62 W58 e59 h63=>?_;cases h63;have E0:=E0.trans e59;have Z02:=DD e59.g Z02;have h6:=DD e59.g h6;refine ak (Er:=Er) (FR<|gu (aF h6) cD)<|(DE hq).imp fun y66 hq v67 W64 e65 h68=>?_;have E0:=E0.trans e65;have Z02:=DD e65.g Z02;have h6:=DD e65.g h6;refine bI (Er:=Er) (Iv:=fun(s90:(List Pl))(W91:Wd)(g92:St)=>∃(v93:V),g92=[some Z17,some<|.int Z1N,some v5,some<|.int y9,some<|.int y14,some<|.int s51,some<|.str<|sOf y61,some v67,some v93,none]/\Ext W0 W91/\(qD K) W91.G s90 v93) (ar<|bH aO aO) (DE hq) ?_ ?_ ?_
    ·intro W69 N72 e70 hN73 hq;have hs74:=e70.g;have E0:=E0.trans e70;have Z02:=DD e70.g Z02;have h6:=DD e70.g h6;have h68:=DD e70.g h68;refine cC (Er:=Er) (FR<|gu (aF h68) aO)<|(DE hq).imp fun y77 hq v78 W75 e76 h79=>?_;have E0:=E0.trans e76;have hs74:=hs74.trans e76.g;have Z02:=DD e76.g Z02;have h6:=DD e76.g h6;exact hN73 y77 W75 _ hs74 ⟨_,rfl,E0,h79⟩ hq
    ·intro W69 N72 e70 hN73 hq;have hs80:=e70.g;have E0:=E0.trans e70;have Z02:=DD e70.g Z02;have h6:=DD e70.g h6;have h68:=DD e70.g h68;refine cC (Er:=Er) (FR (dO (aF h68) (ao (fun _=>⟨by decide,by decide⟩) aO) (cB (ao (fun _=>by decide) aO) ah)))<|(DE hq).imp fun y83 hq v84 W81 e82 h85=>?_;have E0:=E0.trans e82;have hs80:=hs80.trans e82.g;have Z02:=DD e82.g Z02;have h6:=DD e82.g h6;exact hN73 y83 W81 _ hs80 ⟨_,rfl,E0,h85⟩ hq
    ·intro s86 W87 sg88 hS89 iv hq;obtain⟨v93,rfl,E0,h94⟩:=iv;have Z02:=DD hS89 Z02;have h6:=DD hS89 h6;refine ak (Er:=Er) (ao (fun _=>⟨by decide,by decide⟩)<|aQ (aF Z02) ah)<|(DE hq).imp fun y98 hq v99 W95 e96 h100=>?_;cases h100;have E0:=E0.trans e96;have Z02:=DD e96.g Z02;have h6:=DD e96.g h6;have h94:=DD e96.g h94;refine bI (Er:=Er) (Iv:=fun(s118:Cd)(W119:Wd)(g120:St)=>∃(v121:V),g120=[some Z17,some<|.int Z1N,some v121,some<|.int y9,some<|.int y14,some<|.int s51,some<|.str<|sOf y61,some v67,some v93,some<|.int y98]/\Ext W0 W119/\(qA K) W119.G s118 v121) (ar (cB (ao (fun _=>by decide) aO) ah)) (DE hq) ?_ ?_ ?_
     ·intro W101 N104 e102 hN105 hq;have hs106:=e102.g;have E0:=E0.trans e102;have Z02:=DD e102.g Z02;have h6:=DD e102.g h6;have h94:=DD e102.g h94;refine cC (Er:=Er) (aK (f:=fun(b:Cd×Tx)=>b.1) zt (dw (aF h6) cD (ao (fun _=>⟨by decide,by decide⟩) aO)))<|(DE hq).imp fun y110 hq v111 W107 e108 h112=>?_;have E0:=E0.trans e108;have hs106:=hs106.trans e108.g;have Z02:=DD e108.g Z02;have h94:=DD e108.g h94;exact hN105 y110 W107 _ hs106 ⟨_,rfl,E0,h112⟩ hq
     ·intro W101 N104 e102 hN105 hq;have hs113:=e102.g;have E0:=E0.trans e102;have Z02:=DD e102.g Z02;have h6:=DD e102.g h6;have h94:=DD e102.g h94
      try dsimp only[aV]
      exact hN105 y4 W101 _ hs113 ⟨_,rfl,E0,h6⟩ hq
     ·intro s114 W115 sg116 hS117 iv hq;obtain⟨v121,rfl,E0,h122⟩:=iv;have Z02:=DD hS117 Z02;have h94:=DD hS117 h94;refine bI (Er:=Er) (Iv:=fun(s139:Cd)(W140:Wd)(g141:St)=>∃(v142:V),g141=[some Z17,some<|.int Z1N,some v142,some<|.int y9,some<|.int y14,some<|.int s51,some<|.str<|sOf y61,some v67,some v93,some<|.int y98]/\Ext W0 W140/\(qA K) W140.G s139 v142) (ar (cB (ao (fun _=>by decide) aO) ah)) (DE hq) ?_ ?_ ?_
      ·intro W123 N126 e124 hN127 hq;have hs128:=e124.g;have E0:=E0.trans e124;have Z02:=DD e124.g Z02;have h94:=DD e124.g h94;have h122:=DD e124.g h122;refine cC (Er:=Er) (cw (ao (fun _=>⟨by decide,by decide⟩) aO))<|(DE hq).imp fun y131 hq v132 W129 e130 h133=>?_;have E0:=E0.trans e130;have hs128:=hs128.trans e130.g;have Z02:=DD e130.g Z02;have h94:=DD e130.g h94;exact hN127 y131 W129 _ hs128 ⟨_,rfl,E0,h133⟩ hq
      ·intro W123 N126 e124 hN127 hq;have hs134:=e124.g;have E0:=E0.trans e124;have Z02:=DD e124.g Z02;have h94:=DD e124.g h94;have h122:=DD e124.g h122
       try dsimp only[aV]
       exact hN127 s114 W123 _ hs134 ⟨_,rfl,E0,h122⟩ hq
      ·intro s135 W136 sg137 hS138 iv hq;obtain⟨v142,rfl,E0,h143⟩:=iv;have Z02:=DD hS138 Z02;have h94:=DD hS138 h94;exact aE (Er:=Er) (bR (K:=K) (aF h143) (aF h94) (ao (fun _=>by decide)<|aQ (aF Z02) ah))<|En hq fun y146 hq v147 W148 e149 h150=>hq v147 W148 (E0.trans e149) h150
theorem Dg{f:Addr}{fd:Ee}(F:Fun K "_law_faded" "_law_faded" (tp 55) f fd){gz:Int->Int->Int->Res (List Int)}(Z0w:Cal P w K mg base "_law_row" ["_law_cell","_law_many","_law_base"] (1) (cI isI isI isI (ro isI) gz))(h_len:mg "len"=none)(h_zip:mg "zip"=none):FnOk P w K mg base CX0 (2) f fd ["_law_strip","_law_cell"] (bz (qD K) isI (rs<|qD K)<|BQ gz):=by
 have SC:FnScope ["_law_strip","_law_cell","_law_draws","_law_worn"] ["_law_strip","_law_cell"] (defScope<|tp 55):=by walk_at "F"
 refine F.ok SC (fun vs H Q E h=>?_)<|fun cdv A outer s H vs Q E hr h=>?_;·obtain⟨_,_,_,_,_,_,rfl,_⟩:=h;rfl
 ·obtain⟨W0,Z0o,Z05,Z0q,_,rfl,rfl,Z06,Z0F,Er,hq⟩:=h;cases Z0F
  refine⟨_,(ae (aT (Ik (eN (aq jv (aB (aW (K:=K) rfl) (by rfl) h_len EK<|a5 (pv 0) af) aa<|ay _)<|dW<|aq fQ (aj aJ (pv 1) aa) aa<|ay _)) (ag<|ax<|pv 0) aG)
   (ae (bW 2 (cv Z0w (a5 (aj aY (pv 1) aa) (a5 (aB (aW (K:=K) rfl) (by rfl) h_len EK<|a5 (pv 0) af)<|a5 aa af))))
   (ae (bW 3<|bJ<|a5 aM<|a5 aM<|a5 aM af)
   (ag (ax (dG (N:=["_law_mark","_law_d","_law_worn"]) (cap:=[none,none,some 3]) (gZ rfl (by decide +kernel) rfl (by decide +kernel) (by rfl) (by rfl)) rfl (fD (K:=K) rfl rfl h_zip (a5 (pv 0) (a5 (pv 2) af))) (fun _ _ _ _=>(bt (K:=K) (n:=2) rfl rfl (au (bo (i:=0) (show Fg (["_law_mark","_law_d","_law_worn"]:List Str) by decide +kernel) rfl (by walk_at "L")) (au (bo (i:=1) (show Fg (["_law_mark","_law_d","_law_worn"]:List Str) by decide +kernel) rfl (by walk_at "L")) br)))) (fun _ _ _ _=>cq) (fun _ _ _ _=>(dX (aq jw (pv 1) aa (ay _)) (pv 2) (pv 0))))))))),?_⟩
  have E0:Ext W0 W0:=.refl W0;rw[show L2.start ["_law_strip","_law_cell","_law_draws","_law_worn"] [Z0q,.int Z05]=[some Z0q,some<|.int Z05,none,none]from rfl];unfold BQ at hq;refine bp (Er:=Er) (eS (ar<|bH (cu<|FW<|aF Z06) ah) (ar (lS (ao (fun _=>by decide) aO) ah)))<|(DE hq).imp fun y1 hq W2 e3=>?_;have E0:=E0.trans e3;have Z06:=DD e3.g Z06;by_cases hb33:y1=true
  ·rw[if_pos hb33]at hq ⊢;exact aE (Er:=Er) (aF Z06)<|fun v4 W5 e6 h7=>hq v4 W5 (E0.trans e6) h7
  ·rw[if_neg hb33]at hq ⊢
   try dsimp only[aV]
   refine ak (Er:=Er) (FR (dO (ao (fun _=>⟨by decide,by decide⟩) aO) (cu<|FW<|aF Z06) ah))<|(DE hq).imp fun y10 hq v11 W8 e9 h12=>?_;have E0:=E0.trans e9;have Z06:=DD e9.g Z06;refine ak (Er:=Er) (bR (K:=K) (aP (x:=DP "?") (l:=[63]) (eP _ _ (by decide +kernel))) (aP (x:=DP "?") (l:=[63]) (eP _ _ (by decide +kernel))) (aP (x:=DP "?") (l:=[63]) (eP _ _ (by decide +kernel))))<|fun v15 W13 e14 h16=>?_;have E0:=E0.trans e14;have Z06:=DD e14.g Z06;have h12:=DD e14.g h12;exact aE (Er:=Er) (FR (dH (gR (dh<|aF Z06)<|dh<|aF h12) fun W19 a17 v18 e20 h21 Q27 k28=>by
    have h22:=EG (R:=sh (qB K)) e20 h16;refine i5 h21 fun v23 v25 h24 h26=>?_;cases h26;exact⟨by simp[Keep,bh],((jJ (ar (bH aO ah)) (aF h22) (aF h24)):EV Er _ [some v23,some (.int a17.2),some v15] _ _ _) _ (.refl _) _ k28⟩)) (En hq fun y29 hq v30 W31 e32 h33=>hq v30 W31 (E0.trans e32) h33)
theorem Dh{f:Addr}{fd:Ee}(F:Fun K "within" "within" (tp 21) f fd)(h_abs:mg "abs"=none):FnOk P w K mg base CX0 (1) f fd ["state","loose","bound"] (cI (qC K) isI isI (rs isB)<|BR):=by
 have SC:FnScope ["state","loose","bound","twist","idle"] ["state","loose","bound"] (defScope<|tp 21):=by walk_at "F"
 refine F.ok SC (fun vs H Q E h=>?_)<|fun cdv A outer s H vs Q E hr h=>?_;·obtain⟨_,_,_,_,_,_,_,_,rfl,_⟩:=h;rfl
 ·obtain⟨W0,state,loose,bound,Z2u,_,_,rfl,rfl,Z27,Z0M,Z1d,Er,hq⟩:=h;cases Z0M;cases Z1d;refine⟨_,(ae (de (pv 0)<|bt (K:=K) (n:=2) rfl rfl<|au (du 3)<|au (du 4) br)
   (ag (ax (oo (cF pP (aB gY (by rfl) h_abs Hl (a5 (pv 3) af)) (pv 2) (ay _)) (lE (cF pP (pv 4) (pv 1) (ay _))))))),?_⟩
  have E0:Ext W0 W0:=.refl W0;unfold BR at hq;refine dz (Er:=Er) (aF Z27)<|fun v1 W2 e3 h4=>?_;have E0:=E0.trans e3;refine i5 h4 fun v5 v7 h6 h8=>?_;cases h6;cases h8;exact aE (Er:=Er) (oO (bH (lT aO) aO)<|bH aO aO)<|En hq fun y9 hq v10 W11 e12 h13=>hq v10 W11 (E0.trans e12) h13
theorem Di{f:Addr}{fd:Ee}(F:Fun K "twisting" "twisting" (tp 9) f fd){Z28:Addr}(Z3V:mg "STEPS"=some (.ref Z28))(Z3W:DictK K w Z28 [(GJ<|DP "f",.int<|1),(GJ<|DP "b",.int<|-1),(GJ<|DP "i",.int<|0)]):FnOk P w K mg base CX0 (1) f fd ["tablet","turn"] (bz (qA K) isS (rs isI)<|BS):=by
 have SC:FnScope ["tablet","turn","step"] ["tablet","turn"] (defScope<|tp 9):=by walk_at "F"
 refine F.ok SC (fun vs H Q E h=>?_)<|fun cdv A outer s H vs Q E hr h=>?_;·obtain⟨_,_,_,_,_,_,rfl,_⟩:=h;rfl
 ·obtain⟨W0,tablet,turn,Z0g,_,rfl,rfl,Z03,Z2A,Er,hq⟩:=h;cases Z2A
  refine⟨_,(ae (bW 2 (l4 (K:=K) (w:=w) rfl rfl (cN (v:=.ref _) (by rfl) Z3V rfl) (pv 1)<|fun _ _=>rfl))
   (ag (ax (dX (aq cb (aw (aA (K:=K) rfl) (pv 0) aa (fun _ _=>rfl)) aM (ay _)) (pv 2) (gG f6 (pv 2)))))),?_⟩
  have E0:Ext W0 W0:=.refl W0;unfold BS at hq;refine ak (Er:=Er) (rL Z3W (by decide +kernel) cD)<|(DE hq).imp fun y3 hq v4 W1 e2 h5=>?_;cases h5;have E0:=E0.trans e2;have Z03:=DD e2.g Z03;exact aE (Er:=Er) (jJ (ar (fF (aK (f:=fun(b:Cd)=>b.1) gD<|aF Z03) (aP (x:=DP "S") (l:=[83]) (eP _ _ (by decide +kernel))))) aO<|fE aO)<|En hq fun y6 hq v7 W8 e9 h10=>hq v7 W8 (E0.trans e9) h10
theorem Dj{f:Addr}{fd:Ee}(F:Fun K "state_behind" "state_behind" (tp 20) f fd){pq:Cd->Tx->Res Int}(Z1J:Cal P w K mg base "twisting" ["tablet","turn"] (1) (bz (qA K) isS (rs isI) pq)):FnOk P w K mg base CX0 (2) f fd ["tablet","state","turn"] (cI (qA K) (qC K) isS (rs<|qC K)<|BU pq):=by
 have SC:FnScope ["tablet","state","turn","twist","idle"] ["tablet","state","turn"] (defScope<|tp 20):=by walk_at "F"
 refine F.ok SC (fun vs H Q E h=>?_)<|fun cdv A outer s H vs Q E hr h=>?_;·obtain⟨_,_,_,_,_,_,_,_,rfl,_⟩:=h;rfl
 ·obtain⟨W0,tablet,state,turn,Z0g,Z2u,_,rfl,rfl,Z03,Z27,Z2A,Er,hq⟩:=h;cases Z2A;refine⟨_,(ae (de (pv 1)<|bt (K:=K) (n:=2) rfl rfl<|au (du 3)<|au (du 4) br)
   (ag (ax (bJ (a5 (aj aX (pv 3) (cv Z1J (a5 (pv 0) (a5 (pv 2) af)))) (a5 (dX (aq cb (pv 2) aM (ay _)) (aj aX (pv 4) aa) aa) af)))))),?_⟩
  have E0:Ext W0 W0:=.refl W0;unfold BU at hq;refine dz (Er:=Er) (aF Z27)<|fun v1 W2 e3 h4=>?_;have E0:=E0.trans e3;have Z03:=DD e3.g Z03;refine i5 h4 fun v5 v7 h6 h8=>?_;cases h6;cases h8;exact aE (Er:=Er) (gr (K:=K) (aN aO<|aQ (aF Z03) cD) (jJ (ar (fF cD (aP (x:=DP "i") (l:=[105]) (eP _ _ (by decide +kernel))))) (aN aO ah) ah))<|En hq fun y12 hq v13 W14 e15 h16=>hq v13 W14 (E0.trans e15) h16
theorem Dk{f:Addr}{fd:Ee}(F:Fun K "twisted" "twisted" (tp 19) f fd){Z29:Tok}(Z1K:mg "HOLES"=some (.int 4 Z29)):FnOk P w K mg base CX0 (1) f fd ["tablet","twist"] (bz (qA K) isI (rs<|qA K)<|BW):=by
 have SC:FnScope ["tablet","twist","lay","holes","stand"] ["tablet","twist"] (defScope<|tp 19):=by walk_at "F"
 refine F.ok SC (fun vs H Q E h=>?_)<|fun cdv A outer s H vs Q E hr h=>?_;·obtain⟨_,_,_,_,_,_,rfl,_⟩:=h;rfl
 ·obtain⟨W0,tablet,twist,Z0g,_,rfl,rfl,Z03,Z4V,Er,hq⟩:=h;cases Z4V;refine⟨_,(ae (de (pv 0)<|bt (K:=K) (n:=3) rfl rfl<|au (du 2)<|au (du 3)<|au (du 4) br)
   (ag (ax (bJ (a5 (pv 2) (a5 (pv 3) (a5 (aj aJ (dX (aq cb (pv 2) aM (ay _)) (aj aX (pv 4) (pv 1)) (aj fA (pv 4) (pv 1))) (cN (v:=.int 4) (by rfl) Z1K ⟨_,rfl⟩)) af))))))),?_⟩
  have E0:Ext W0 W0:=.refl W0;unfold BW at hq;refine dz (Er:=Er) (aF Z03)<|fun v1 W2 e3 h4=>?_;have E0:=E0.trans e3;refine oQ h4 fun v5 v7 v9 h6 h8 h10=>?_;cases h6;cases h8;cases h10;exact aE (Er:=Er) (bR (K:=K) cD cD (ao (fun _=>by decide) (jJ (ar (fF cD (aP (x:=DP "S") (l:=[83]) (eP _ _ (by decide +kernel))))) (aN aO aO)<|aN aO aO)))<|En hq fun y13 hq v14 W15 e16 h17=>hq v14 W15 (E0.trans e16) h17
theorem Bo{f:Addr}{fd:Ee}(F:Fun K "top" "top" (tp 7) f fd){Z29:Tok}(Z1K:mg "HOLES"=some (.int 4 Z29)):FnOk P w K mg base CX0 (1) f fd ["tablet"] (cY (qA K) (rs isS)<|qK):=by
 have SC:FnScope ["tablet","lay","holes","stand"] ["tablet"] (defScope<|tp 7):=by walk_at "F"
 refine F.ok SC (fun vs H Q E h=>?_)<|fun cdv A outer s H vs Q E hr h=>?_;·obtain⟨_,_,_,_,rfl,_⟩:=h;rfl
 ·obtain⟨W0,tablet,Z0g,rfl,rfl,Z03,Er,hq⟩:=h;refine⟨_,(ae (de (pv 0)<|bt (K:=K) (n:=3) rfl rfl<|au (du 1)<|au (du 2)<|au (du 3) br)
   (ag (ax (aw bD (pv 2) (aj aJ (pv 3) (cN (v:=.int 4) (by rfl) Z1K ⟨_,rfl⟩)) (fun _ _=>rfl))))),?_⟩
  have E0:Ext W0 W0:=.refl W0;unfold qK at hq;refine dz (Er:=Er) (aF Z03)<|fun v1 W2 e3 h4=>?_;have E0:=E0.trans e3;refine oQ h4 fun v5 v7 v9 h6 h8 h10=>?_;cases h6;cases h8;cases h10;exact aE (Er:=Er) (bE cD (ao (fun _=>by decide) aO))<|En hq fun y11 hq v12 W13 e14 h15=>hq v12 W13 (E0.trans e14) h15
theorem Dl{f:Addr}{fd:Ee}(F:Fun K "bottom" "bottom" (tp 8) f fd){Z29:Tok}(Z1K:mg "HOLES"=some (.int 4 Z29)):FnOk P w K mg base CX0 (1) f fd ["tablet"] (cY (qA K) (rs isS)<|BX):=by
 have SC:FnScope ["tablet","lay","holes","stand"] ["tablet"] (defScope<|tp 8):=by walk_at "F"
 refine F.ok SC (fun vs H Q E h=>?_)<|fun cdv A outer s H vs Q E hr h=>?_;·obtain⟨_,_,_,_,rfl,_⟩:=h;rfl
 ·obtain⟨W0,tablet,Z0g,rfl,rfl,Z03,Er,hq⟩:=h;refine⟨_,(ae (de (pv 0)<|bt (K:=K) (n:=3) rfl rfl<|au (du 1)<|au (du 2)<|au (du 3) br)
   (ag (ax (aw bD (pv 2) (aj aJ (aj aX (pv 3) aa) (cN (v:=.int 4) (by rfl) Z1K ⟨_,rfl⟩)) (fun _ _=>rfl))))),?_⟩
  have E0:Ext W0 W0:=.refl W0;unfold BX at hq;refine dz (Er:=Er) (aF Z03)<|fun v1 W2 e3 h4=>?_;have E0:=E0.trans e3;refine oQ h4 fun v5 v7 v9 h6 h8 h10=>?_;cases h6;cases h8;cases h10;exact aE (Er:=Er) (bE cD (ao (fun _=>by decide)<|aN aO ah))<|En hq fun y11 hq v12 W13 e14 h15=>hq v12 W13 (E0.trans e14) h15
theorem Dm{f:Addr}{fd:Ee}(F:Fun K "left_place" "left_place" (tp 12) f fd){iu:Cd->Res Tx}{xF:Cd->Res Tx}{pq:Cd->Tx->Res Int}(C_top:Cal P w K mg base "top" ["tablet"] (1) (cY (qA K) (rs isS) iu))(Z3B:Cal P w K mg base "bottom" ["tablet"] (1) (cY (qA K) (rs isS) xF))(Z1J:Cal P w K mg base "twisting" ["tablet","turn"] (1) (bz (qA K) isS (rs isI) pq)){Z1T:Addr}(Z3C:mg "SLANTS"=some (.ref Z1T))(Z3D:DictK K w Z1T [(GI<|1,.str<|DP "s"),(GI<|-1,.str<|DP "z"),(GI<|0,.str<|DP "o")]):FnOk P w K mg base CX0 (2) f fd ["tablet","turn"] (bz (qA K) isS (rs<|qB K)<|BY iu xF pq):=by
 have SC:FnScope ["tablet","turn"] ["tablet","turn"] (defScope<|tp 12):=by walk_at "F"
 refine F.ok SC (fun vs H Q E h=>?_)<|fun cdv A outer s H vs Q E hr h=>?_;·obtain⟨_,_,_,_,_,_,rfl,_⟩:=h;rfl
 ·obtain⟨W0,tablet,turn,Z0g,_,rfl,rfl,Z03,Z2A,Er,hq⟩:=h;cases Z2A;refine⟨_,(ag (ax (bJ (a5 (cv C_top<|a5 (pv 0) af) (a5 (cv Z3B<|a5 (pv 0) af) (a5 (l4 (K:=K) (w:=w) rfl rfl (cN (v:=.ref _) (by rfl) Z3C rfl) (cv Z1J<|a5 (pv 0)<|a5 (pv 1) af)<|fun _ _=>rfl) af)))))),?_⟩;have E0:Ext W0 W0:=.refl W0;unfold BY at hq;exact aE (Er:=Er) (bR (K:=K) (cw<|aF Z03) (cw<|aF Z03) (rM Z3D (by decide +kernel)<|aQ (aF Z03) cD))<|En hq fun y5 hq v6 W7 e8 h9=>hq v6 W7 (E0.trans e8) h9
theorem Dn{f:Addr}{fd:Ee}(F:Fun K "suits" "suits" (tp 16) f fd){Z4f:Tok}(Z4g:mg "WORN"=some (.str (DP "?") Z4f)):FnOk P w K mg base CX0 (1) f fd ["sign","left"] (bz isS isS (rs isB)<|BZ):=by
 have SC:FnScope ["sign","left"] ["sign","left"] (defScope<|tp 16):=by walk_at "F"
 refine F.ok SC (fun vs H Q E h=>?_)<|fun cdv A outer s H vs Q E hr h=>?_;·obtain⟨_,_,_,_,_,_,rfl,_⟩:=h;rfl
 ·obtain⟨W0,sign,left,_,_,rfl,rfl,Z55,Z56,Er,hq⟩:=h;cases Z55;cases Z56;refine⟨_,(ag (ax (Am (cF cb (pv 1) (cN (v:=.str<|DP "?") (by rfl) Z4g ⟨_,rfl⟩)<|ay _)<|lE<|cF cb (pv 1) (pv 0)<|ay _))),?_⟩;have E0:Ext W0 W0:=.refl W0;unfold BZ at hq;exact aE (Er:=Er) (AK (fF cD (aP (x:=DP "?") (l:=[63]) (eP _ _ (by decide +kernel))))<|fF cD cD)<|En hq fun y1 hq v2 W3 e4 h5=>hq v2 W3 (E0.trans e4) h5
theorem Dp{f:Addr}{fd:Ee}(F:Fun K "agrees" "agrees" (tp 15) f fd){wg:Tx->Tx->Res Bool}(Z3Y:Cal P w K mg base "suits" ["sign","left"] (1) (bz isS isS (rs isB) wg))(h_all:mg "all"=none)(h_zip:mg "zip"=none):FnOk P w K mg base CX0 (2) f fd ["place","mark"] (bz (qB K) (qB K) (rs isB)<|C0 wg):=by
 have SC:FnScope ["place","mark"] ["place","mark"] (defScope<|tp 15):=by walk_at "F"
 refine F.ok SC (fun vs H Q E h=>?_)<|fun cdv A outer s H vs Q E hr h=>?_;·obtain⟨_,_,_,_,_,_,rfl,_⟩:=h;rfl
 ·obtain⟨W0,place,mark,Z4j,Z1e,rfl,rfl,Z4X,Z23,Er,hq⟩:=h;refine⟨_,(ag (ax (aB (l8 (K:=K) rfl rfl) (by rfl) h_all Kk (a5 (dG (N:=["sign","left"]) (cap:=[none,none]) (gZ rfl (by decide +kernel) rfl (by decide +kernel) (by rfl) (by rfl)) rfl (fD (K:=K) rfl rfl h_zip<|a5 (pv 0)<|a5 (pv 1) af) (fun _ _ _ _=>(bt (K:=K) (n:=2) rfl rfl (au (bo (i:=0) (show Fg (["sign","left"]:List Str) by decide +kernel) rfl (by walk_at "L")) (au (bo (i:=1) (show Fg (["sign","left"]:List Str) by decide +kernel) rfl (by walk_at "L")) br)))) (fun _ _ _ _=>cq)<|fun _ _ _ _=>(cv Z3Y<|a5 (pv 0)<|a5 (pv 1) af)) af)))),?_⟩;have E0:Ext W0 W0:=.refl W0;rw[show L2.start ["place","mark"] [Z4j,Z1e]=[some Z4j,some Z1e]from rfl];unfold C0 at hq;exact aE (Er:=Er) (uj (Ir (dH (f:=fun(a1:Tx×Tx)=>wg a1.1 a1.2) (gR (gv<|aF Z4X)<|gv<|aF Z23) fun W3 a1 v2 e4 h5 Q10 k11=>by
   refine i5 h5 fun v6 v8 h7 h9=>?_;cases h7;cases h9;exact⟨by simp[Keep,bh],((aQ cD cD):EV Er _ [some (.str (sOf a1.1)),some (.str (sOf a1.2))] _ _ _) _ (.refl _) _ k11⟩))) (En hq fun y13 hq v14 W15 e16 h17=>hq v14 W15 (E0.trans e16) h17)
theorem Dq{f:Addr}{fd:Ee}(F:Fun K "leaves" "leaves" (tp 22) f fd){xH:Pl->Pl->Res Bool}{xG:Cd->Tx->Res Pl}{xE:Cd->Int->Res Cd}(Z3E:Cal P w K mg base "agrees" ["place","mark"] (2) (bz (qB K) (qB K) (rs isB) xH))(Z2B:Cal P w K mg base "left_place" ["tablet","turn"] (2) (bz (qA K) isS (rs<|qB K) xG))(Z3r:Cal P w K mg base "twisted" ["tablet","twist"] (1) (bz (qA K) isI (rs<|qA K) xE)):FnOk P w K mg base CX0 (3) f fd ["tablet","state","turn","mark"] (gE (qA K) (qC K) isS (qB K) (rs isB)<|C1 xH xG xE):=by
 have SC:FnScope ["tablet","state","turn","mark"] ["tablet","state","turn","mark"] (defScope<|tp 22):=by walk_at "F"
 refine F.ok SC (fun vs H Q E h=>?_)<|fun cdv A outer s H vs Q E hr h=>?_;·obtain⟨_,_,_,_,_,_,_,_,_,_,rfl,_⟩:=h;rfl
 ·obtain⟨W0,tablet,state,turn,mark,Z0g,Z2u,_,Z1e,rfl,rfl,Z03,Z27,Z2A,Z23,Er,hq⟩:=h;cases Z2A;refine⟨_,(ag<|ax<|cv Z3E<|a5 (cv Z2B<|a5 (cv Z3r<|a5 (pv 0)<|a5 (aw (aA (K:=K) rfl) (pv 1) aa<|fun _ _=>rfl) af)<|a5 (pv 2) af)<|a5 (pv 3) af),?_⟩;have E0:Ext W0 W0:=.refl W0;unfold C1 at hq;exact aE (Er:=Er) (aQ (aQ (aQ (aF Z03)<|aK (f:=fun(b:Ii)=>b.1) zt<|aF Z27) cD)<|aF Z23)<|En hq fun y3 hq v4 W5 e6 h7=>hq v4 W5 (E0.trans e6) h7
theorem Dr{f:Addr}{fd:Ee}(F:Fun K "onward" "onward" (tp 23) f fd){we:Cd->Ii->Tx->Res Ii}{nU:Ii->Int->Int->Res Bool}{vB:Cd->Ii->Tx->Pl->Res Bool}(Z2a:Cal P w K mg base "state_behind" ["tablet","state","turn"] (2) (cI (qA K) (qC K) isS (rs<|qC K) we))(Z2b:Cal P w K mg base "within" ["state","loose","bound"] (1) (cI (qC K) isI isI (rs isB) nU))(Z3F:Cal P w K mg base "leaves" ["tablet","state","turn","mark"] (3) (gE (qA K) (qC K) isS (qB K) (rs isB) vB)){Z3Z:Tok}(Z40:mg "TURNS"=some (.str (DP "fbi") Z3Z)):FnOk P w K mg base CX0 (4) f fd ["tablet","mark","loose","bound","state"] (eK (qA K) (qB K) isI isI (qC K) (ro<|isT2 K isS<|qC K)<|C2 we nU vB):=by
 have SC:FnScope ["tablet","mark","loose","bound","state","moves"] ["tablet","mark","loose","bound","state"] (defScope<|tp 23):=by walk_at "F"
 refine F.ok SC (fun vs H Q E h=>?_)<|fun cdv A outer s H vs Q E hr h=>?_;·obtain⟨_,_,_,_,_,_,_,_,_,_,_,_,rfl,_⟩:=h;rfl
 ·obtain⟨W0,tablet,mark,loose,bound,state,Z0g,Z1e,_,_,Z2u,rfl,rfl,Z03,Z23,Z0M,Z1d,Z27,Er,hq⟩:=h;cases Z0M;cases Z1d
  refine⟨_,(ae (oK (i:=5) SC.nd rfl (by walk_at "L") (N:=["turn","tablet","state"]) (cap:=[none,some 0,some 4]) (gZ rfl (by decide +kernel) rfl (by decide +kernel) (by rfl) (by rfl)) rfl (iL (cN (v:=.str<|DP "fbi") (by rfl) Z40 ⟨_,rfl⟩)) (fun _ _ _ _=>(bo (i:=0) (show Fg (["turn","tablet","state"]:List Str) by decide +kernel) rfl (by walk_at "L"))) (fun _ _ _ _=>cq)<|fun _ _ _ _=>(bJ<|a5 (pv 0)<|a5 (cv Z2a<|a5 (pv 1)<|a5 (pv 2)<|a5 (pv 0) af) af))
   (ag (ax (dG (N:=["turn","after","loose","bound","tablet","mark"]) (cap:=[none,none,some 2,some 3,some 0,some 1]) (gZ rfl (by decide +kernel) rfl (by decide +kernel) (by rfl) (by rfl)) rfl (bu (K:=K) rfl (pv 5)) (fun _ _ _ _=>(bt (K:=K) (n:=2) rfl rfl (au (bo (i:=0) (show Fg (["turn","after","loose","bound","tablet","mark"]:List Str) by decide +kernel) rfl (by walk_at "L")) (au (bo (i:=1) (show Fg (["turn","after","loose","bound","tablet","mark"]:List Str) by decide +kernel) rfl (by walk_at "L")) br)))) (fun _ _ _ _=>(wJ (Ik (fz (bS (cv Z2b (a5 (pv 1) (a5 (pv 2) (a5 (pv 3) af))))) (eM (bS (cv Z3F (a5 (pv 4) (a5 (pv 1) (a5 (pv 0) (a5 (pv 5) af))))))))))) (fun _ _ _ _=>(bJ (a5 (pv 0) (a5 (pv 1) af)))))))),?_⟩
  have E0:Ext W0 W0:=.refl W0;rw[show L2.start ["tablet","mark","loose","bound","state","moves"] [Z0g,Z1e,.int loose,.int bound,Z2u]=[some Z0g,some Z1e,some<|.int loose,some<|.int bound,some Z2u,none]from rfl];unfold C2 at hq;refine ak (Er:=Er) (FR (dH (f:=fun(a3:Tx)=>(we tablet state a3).bind fun y12=>DK (a3,y12)) (iQ (aP (x:=DP "fbi") (l:=[102,98,105]) (eP _ _ (by decide +kernel)))) fun W5 a3 v4 e6 h7 Q13 k14=>by
   have h8:=EG (R:=sh (qA K)) e6 Z03;have h9:=EG (R:=sh (qC K)) e6 Z27;cases h7;refine gn ?_;exact⟨by simp[Keep,bh],((gr (K:=K) cD (dw (aF h8) (aF h9) cD)):EV Er _ [some (.str (sOf a3)),some Z0g,some Z2u] _ _ _) _ (.refl _) _ k14⟩)) ((DE hq).imp fun y15 hq v16 W1 e2 h17=>?_)
  have E0:=E0.trans e2;have Z03:=DD e2.g Z03;have Z23:=DD e2.g Z23;exact jg (Er:=Er) (ug (f:=fun(a18:Tx×Ii)=>((nU a18.2 loose bound).bind fun y31=>if y31 then vB tablet a18.2 a18.1 mark else DK false).bind fun y33=>if y33 then DK (some (a18.1,a18.2))else DK none) (bN<|aF h17) fun W20 a18 v19 e21 h22 Q29 k30=>by
   have h23:=EG (R:=sh<|qA K) e21 Z03;have h24:=EG (R:=sh<|qB K) e21 Z23;refine i5 h22 fun v25 v27 h26 h28=>?_;cases h26;refine⟨by simp[Keep,bh],((fG (fj<|dw (aF h28) aO aO)<|fj<|jM (aF h23) (aF h28) cD<|aF h24):TV Er _ [some (.str<|sOf a18.1),some v27,some<|.int loose,some<|.int bound,some Z0g,some Z1e] _ _) _ (.refl _) _ (En (P:=fun b32=>(if b32=true then DK (some (a18.1,a18.2))else DK none:Res (Option<|Tx×Ii)).OkE Er _) (DE k30) fun b32 k36 W34 e35=>?_)⟩;cases b32 with
   |false=>exact k36 none _ e35 trivial
   |true=>
    rw[if_pos rfl];refine EV.go (Er:=Er) (σ:=[some (.str (sOf a18.1)),some v27,some (.int loose),some (.int bound),some Z0g,some Z1e]) (W1:=W34) e35 (gr (K:=K) cD (aF h28)) ?_;exact fun u39 W37 e38 h40=>k36 (some u39) _ (e35.trans e38) h40) (En hq fun y42 hq p43 W44 e45 hp46 o47=>hq p43 W44 (E0.trans e45) (aR E0.h hp46) o47)
theorem Ds{f:Addr}{fd:Ee}(F:Fun K "states_behind" "states_behind" (tp 25) f fd){gA:Cd->Pl->Int->Int->Ii->Res (List<|Tx×Ii)}(Z1m:Cal P w K mg base "onward" ["tablet","mark","loose","bound","state"] (4) (eK (qA K) (qB K) isI isI (qC K) (ro<|isT2 K isS<|qC K) gA))(h_sorted:mg "sorted"=none):FnOk P w K mg base CX0 (5) f fd ["tablet","mark","loose","bound","states"] (eK (qA K) (qB K) isI isI (qE K) (ro<|qC K)<|C3 gA):=by
 have SC:FnScope ["tablet","mark","loose","bound","states"] ["tablet","mark","loose","bound","states"] (defScope<|tp 25):=by walk_at "F"
 refine F.ok SC (fun vs H Q E h=>?_)<|fun cdv A outer s H vs Q E hr h=>?_;·obtain⟨_,_,_,_,_,_,_,_,_,_,_,_,rfl,_⟩:=h;rfl
 ·obtain⟨W0,tablet,mark,loose,bound,states,Z0g,Z1e,_,_,Z4h,rfl,rfl,Z03,Z23,Z0M,Z1d,Z4K,Er,hq⟩:=h;cases Z0M;cases Z1d;refine⟨_,(ag (ax (aB (mq rfl) (by rfl) h_sorted JG (a5 (sk (dC hr) (N:=["state","turn","after","tablet","mark","loose","bound"]) (cap:=[none,none,none,some 0,some 1,some 2,some 3]) (gZ rfl (by decide +kernel) rfl (by decide +kernel) (by rfl) (by rfl)) rfl (bu (K:=K) rfl<|pv 4) (fun _ _ _ _=>(bo (i:=0) (show Fg (["state","turn","after","tablet","mark","loose","bound"]:List Str) by decide +kernel) rfl (by walk_at "L"))) (fun _ _ _ _=>cq) (fun _ _ _ _=>(bu (K:=K) rfl<|cv Z1m<|a5 (pv 3)<|a5 (pv 4)<|a5 (pv 5)<|a5 (pv 6)<|a5 (pv 0) af)) (fun _ _ _ _=>(bt (K:=K) (n:=2) rfl rfl (au (bo (i:=1) (show Fg (["state","turn","after","tablet","mark","loose","bound"]:List Str) by decide +kernel) rfl (by walk_at "L")) (au (bo (i:=2) (show Fg (["state","turn","after","tablet","mark","loose","bound"]:List Str) by decide +kernel) rfl (by walk_at "L")) br)))) (fun _ _ _ _=>cq)<|fun _ _ _ _=>(pv 2)) af)))),?_⟩;have E0:Ext W0 W0:=.refl W0;rw[show L2.start ["tablet","mark","loose","bound","states"] [Z0g,Z1e,.int loose,.int bound,Z4h]=[some Z0g,some Z1e,some<|.int loose,some<|.int bound,some Z4h]from rfl];unfold C3 at hq;exact jg (Er:=Er) (vb (bN<|aF Z4K) (fun W1 D2 W5 a6 v7 s8 M9 hS10 e3 h4 e11 o12 h13 k14=>by
   have h15:=DD hS10 Z03;have h16:=DD hS10 Z23;refine gn ?_;exact⟨by simp[Keep,bh],uA (((zB e11 (bN<|FR<|fk (aF h15) (aF h16) aO aO<|aF h13) (fun _ _ _ e o=>o.mono e) (fun W19 a20 v21 s22 M23 hS24 e25 o26 h27 k28=>by
    have h29:=DD hS24 h15;have h30:=DD hS24 h16;have h31:=DD hS24 h13;refine i5 h27 fun v32 v34 h33 h35=>?_;cases h33;exact⟨by simp[Keep,bh],uA (((zK e25 h4 (aF h35)):BV Er _ [some v7,some (.str (sOf a20.1)),some v34,some Z0g,some Z1e,some (.int loose),some (.int bound)] _ _ _ _ _) _ _ _ (.refl _) o26 k28)⟩)):BV Er _ [some v7,none,none,some Z0g,some Z1e,some (.int loose),some (.int bound)] _ _ _ _ _) _ _ _ (.refl _) o12 k14)⟩)) (En hq fun y38 hq p39 W40 e41 hp42 o43=>hq p39 W40 (E0.trans e41) (aR E0.h hp42) o43)
theorem Dt{f:Addr}{fd:Ee}(F:Fun K "search" "search" (tp 24) f fd){nU:Ii->Int->Int->Res Bool}{pA:Cd->Pl->Int->Int->(List Ii)->Res (List Ii)}(Z2b:Cal P w K mg base "within" ["state","loose","bound"] (1) (cI (qC K) isI isI (rs isB) nU))(Z24:Cal P w K mg base "states_behind" ["tablet","mark","loose","bound","states"] (5) (eK (qA K) (qB K) isI isI (qE K) (ro<|qC K) pA)){Z1L:Addr}(Z1U:mg "START"=some (.ref Z1L))(Z1V:∀H,SqT K H Z1L [.int (0),.int<|0]):FnOk P w K mg base CX0 (6) f fd ["tablet","strip","loose","bound"] (gE (qA K) (qD K) isI isI (ro<|qE K)<|C4 nU pA):=by
 have SC:FnScope ["tablet","strip","loose","bound","lists","mark"] ["tablet","strip","loose","bound"] (defScope<|tp 24):=by walk_at "F"
 refine F.ok SC (fun vs H Q E h=>?_)<|fun cdv A outer s H vs Q E hr h=>?_;·obtain⟨_,_,_,_,_,_,_,_,_,_,rfl,_⟩:=h;rfl
 ·obtain⟨W0,tablet,strip,loose,bound,Z0g,Z0V,_,_,rfl,rfl,Z03,Z09,Z0M,Z1d,Er,hq⟩:=h;cases Z0M;cases Z1d
  refine⟨_,(ae (bW 4 (bK (a5 (dX (bS (cv Z2b (a5 (cN (v:=.ref _) (by rfl) Z1U rfl)<|a5 (pv 2)<|a5 (pv 3) af))) (bK (a5 (cN (v:=.ref _) (by rfl) Z1U rfl) af))<|bK af) af)))
   (ae (bC Ec rfl (bu (K:=K) rfl<|pv 1) (du 5) (ae (aT (aq (kB hr.units0) (aw (aU (K:=K) rfl) (pv 4) (gG f6 aa)<|fun _ _=>rfl) (bK af)<|ay _) (ag<|ax<|pv 4) aG)
   (ag (dF (bY (K:=K) rfl (pv 4) (a5 (cv Z24 (a5 (pv 0) (a5 (pv 5) (a5 (pv 2) (a5 (pv 3) (a5 (aw (aU (K:=K) rfl) (pv 4) (gG f6 aa) (fun _ _=>rfl)) af)))))) af))))))
   (ag (ax (pv 4))))),?_⟩
  have E0:Ext W0 W0:=.refl W0;unfold C4 at hq;refine cm (Er:=Er) (fZ<|bM (jJ (fj<|dw (i7 Z1V (gI _)<|gI _) aO aO) (FR<|fZ<|bM (i7 Z1V (gI _)<|gI _)<|fY (R:=(qC K)))<|FR<|eT (R:=(qC K)))<|fY (R:=(qE K)))<|(DE hq).imp fun y5 hq p6 W1 e2 hp7 o8=>?_;have fr9:=aR E0.h hp7;have E0:=E0.trans e2;have Z03:=DD e2.g Z03;have Z09:=DD e2.g Z09;refine dQ (Er:=Er) (f:=(yD pA tablet loose bound)) (s0:=y5) (Iv:=fun(s12:(List<|List Ii))(W13:Wd)(g14:St)=>∃(d16:Option V),g14=[some Z0g,some Z0V,some<|.int loose,some<|.int bound,some<|.ref p6,d16]/\Ext W0 W13/\Ow (qE K) W13 p6 s12) (bN<|aF Z09) (DE hq) ?_ ?_ ?_
  ·intro W28 e29;have E0:=E0.trans e29;have Z03:=DD e29.g Z03;have o8:=o8.mono e29;exact⟨_,rfl,E0,o8⟩
  ·intro Wb17 W18 W19 a10 v20 s11 sg21 P22 hW23 hB24 iv e25 h26 hrt27 hq;obtain⟨d16,rfl,E0,o15⟩:=iv;have Z03:=DD hW23 Z03;have E0:=E0.trans e25;have hB24:=hB24.trans e25.g;have Z03:=DD e25.g Z03;have o15:=o15.mono e25;refine gn (σ':=[some Z0g,some Z0V,some<|.int loose,some<|.int bound,some<|.ref p6,some v20]) ?_;unfold yD at hq;refine bp (Er:=Er) (ar<|kC<|FW<|bL (cR o15)<|fE ah)<|(DE hq).imp fun y33 hq W34 e35=>?_;have E0:=E0.trans e35;have hB24:=hB24.trans e35.g;have Z03:=DD e35.g Z03;have o15:=o15.mono e35;have h26:=DD e35.g h26;by_cases hb41:y33=true
   ·rw[if_pos hb41]at hq ⊢;exact⟨.ref p6,rfl,(hrt27 _ hq) p6 W34 E0 fr9 o15⟩
   ·rw[if_neg hb41]at hq ⊢
    try dsimp only[aV]
    refine fH (Er:=Er) o15 (FR<|fk (aF Z03) (aF h26) aO aO<|bL (cR o15)<|fE ah)<|(DE hq).imp fun y40 hq W37 mu38 o39=>?_;have E0:=mu38.e _ E0 fr9;have hB24:=hB24.trans mu38.g;have Z03:=DD mu38.g Z03;have h26:=DD mu38.g h26
    try dsimp only
    refine bA (W:=W37) y40 hB24 ?_ hq;exact⟨_,rfl,E0,o39⟩
  ·intro s42 W43 sg44 hS45 iv hq;obtain⟨d16,rfl,E0,o15⟩:=iv;exact⟨.ref p6,rfl,hq p6 W43 E0 fr9 o15⟩
theorem Du{f:Addr}{fd:Ee}(F:Fun K "least" "least" (tp 29) f fd){iD:Cd->(List Pl)->Int->Int->Res (List<|List Ii)}(Z0Y:Cal P w K mg base "search" ["tablet","strip","loose","bound"] (6) (gE (qA K) (qD K) isI isI (ro<|qE K) iD))(h_len:mg "len"=none):FnOk P w K mg base CX0 (7) f fd ["tablet","strip","loose"] (cI (qA K) (qD K) isI (rs<|isO isI)<|C5 iD):=by
 have SC:FnScope ["tablet","strip","loose","bound"] ["tablet","strip","loose"] (defScope<|tp 29):=by walk_at "F"
 refine F.ok SC (fun vs H Q E h=>?_)<|fun cdv A outer s H vs Q E hr h=>?_;·obtain⟨_,_,_,_,_,_,_,_,rfl,_⟩:=h;rfl
 ·obtain⟨W0,tablet,strip,loose,Z0g,Z0V,_,rfl,rfl,Z03,Z09,Z0M,Er,hq⟩:=h;cases Z0M
  refine⟨_,(ae (aT (aq (kB hr.units0) (aw (aU (K:=K) rfl) (cv Z0Y (a5 (pv 0) (a5 (pv 1) (a5 (pv 2) (a5 (aB (aW (K:=K) rfl) (by rfl) h_len EK<|a5 (pv 1) af) af))))) (gG f6 aa)<|fun _ _=>rfl) (bK af)<|ay _) (ag<|ax iE) aG)
   (ae (bW 3 aa)
   (ae (mO Ec (aq (kB hr.units0) (aw (aU (K:=K) rfl) (cv Z0Y<|a5 (pv 0)<|a5 (pv 1)<|a5 (pv 2)<|a5 (pv 3) af) (gG f6 aa)<|fun _ _=>rfl) (bK af)<|ay _) (ag (lF (i:=3) SC.nd rfl (by walk_at "L") aa tq)))
   (ag (ax (pv 3)))))),?_⟩
  have E0:Ext W0 W0:=.refl W0;unfold C5 at hq;refine bp (Er:=Er) (ar<|kC<|FW<|bL (Ir<|dP (aF Z03) (aF Z09) aO<|cu<|FW<|aF Z09)<|fE ah)<|(DE hq).imp fun y3 hq W4 e5=>?_;have E0:=E0.trans e5;have Z03:=DD e5.g Z03;have Z09:=DD e5.g Z09;by_cases hb38:y3=true
  ·rw[if_pos hb38]at hq ⊢;exact aE (Er:=Er) (lR (R:=isI))<|fun v6 W7 e8 h9=>hq v6 W7 (E0.trans e8) h9
  ·rw[if_neg hb38]at hq ⊢
   try dsimp only[aV]
   refine ak (Er:=Er) ah<|fun v12 W10 e11 h13=>?_;cases h13;have E0:=E0.trans e11;have Z03:=DD e11.g Z03;have Z09:=DD e11.g Z09;refine jU (Er:=Er) (c:=(Bf iD tablet strip loose)) (f:=Bg) (s0:=(0:Int)) (n:=cap) (Iv:=fun(s16:Int)(W17:Wd)(g18:St)=>g18=[some Z0g,some Z0V,some<|.int loose,some<|.int s16]/\Ext W0 W17) (DE hq) ?_ ?_ ?_ ?_ ?_;·exact⟨rfl,E0⟩
   ·intro W20 W21 s15 sg22 e26 iv;obtain⟨rfl,E0⟩:=iv;have E0:=E0.trans e26;exact⟨rfl,E0⟩
   ·intro W20 s15 sg22 hW24 iv;obtain⟨rfl,E0⟩:=iv;have Z03:=DD hW24 Z03;have Z09:=DD hW24 Z09;unfold Bf;exact(ar<|kC<|FW<|bL (Ir<|dP (aF Z03) (aF Z09) aO aO)<|fE ah)
   ·intro Wb19 W20 s15 sg22 P23 hW24 hB25 iv hq;obtain⟨rfl,E0⟩:=iv;have Z03:=DD hW24 Z03;have Z09:=DD hW24 Z09;unfold Bg at hq;refine lX (Er:=Er) (a:=s15) ah<|fun W29 e30=>?_;have E0:=E0.trans e30;have hB25:=hB25.trans e30.g;have Z03:=DD e30.g Z03;have Z09:=DD e30.g Z09
    try dsimp only
    refine bA (W:=W29) (s15+(1:Int)) hB25 ?_ hq;exact⟨rfl,E0⟩
   ·intro s31 W32 sg33 hS34 iv hq;obtain⟨rfl,E0⟩:=iv;exact aE (Er:=Er) (nk aO)<|fun v35 W36 e37 h38=>hq v35 W36 (E0.trans e37) h38
theorem Dv{f:Addr}{fd:Ee}(F:Fun K "tails" "tails" (tp 26) f fd){iD:Cd->(List Pl)->Int->Int->Res (List<|List Ii)}{gA:Cd->Pl->Int->Int->Ii->Res (List<|Tx×Ii)}(Z0Y:Cal P w K mg base "search" ["tablet","strip","loose","bound"] (6) (gE (qA K) (qD K) isI isI (ro<|qE K) iD))(Z1m:Cal P w K mg base "onward" ["tablet","mark","loose","bound","state"] (4) (eK (qA K) (qB K) isI isI (qC K) (ro<|isT2 K isS<|qC K) gA))(h_len:mg "len"=none)(h_range:mg "range"=none)(h_reversed:mg "reversed"=none)(h_sum:mg "sum"=none):FnOk P w K mg base CX0 (7) f fd ["tablet","strip","loose","bound"] (gE (qA K) (qD K) isI isI (ro<|isPD P w K isI)<|C6 iD gA):=by
 have SC:FnScope ["tablet","strip","loose","bound","lists","counts","at","ahead","moves"] ["tablet","strip","loose","bound"] (defScope<|tp 26):=by walk_at "F"
 refine F.ok SC (fun vs H Q E h=>?_)<|fun cdv A outer s H vs Q E hr h=>?_;·obtain⟨_,_,_,_,_,_,_,_,_,_,rfl,_⟩:=h;rfl
 ·obtain⟨W0,tablet,strip,loose,bound,Z0g,Z0V,_,_,rfl,rfl,Z03,Z09,Z0M,Z1d,Er,hq⟩:=h;cases Z0M;cases Z1d;refine⟨_,(ae (bW 4<|cv Z0Y<|a5 (pv 0)<|a5 (pv 1)<|a5 (pv 2)<|a5 (pv 3) af)
   (ae (bW 5 (bK (a5 (iT (dC hr) (N:=["state"]) (cap:=[none]) (gZ rfl (by decide +kernel) rfl (by decide +kernel) (by rfl) (by rfl)) rfl (bu (K:=K) rfl<|aw (aU (K:=K) rfl) (pv 4) (gG f6 aa)<|fun _ _=>rfl) (fun _ _ _ _=>(bo (i:=0) (show Fg (["state"]:List Str) by decide +kernel) rfl (by walk_at "L"))) (fun _ _ _ _=>cq) (fun _ _ _ _=>(pv 0))<|fun _ _ _ _=>aa) af)))
   (ae (bC Ec rfl (sC rfl h_reversed rfl h_range (a5 (aj fA (aB (aW (K:=K) rfl) (by rfl) h_len EK<|a5 (pv 4) af) aa) af)) (du 6) (ae (bW 7<|aw (aU (K:=K) rfl) (pv 5) (gG f6 aa)<|fun _ _=>rfl)
   (ae (bW 8 (iT (dC hr) (N:=["state","tablet","strip","at","loose","bound"]) (cap:=[none,some 0,some 1,some 6,some 2,some 3]) (gZ rfl (by decide +kernel) rfl (by decide +kernel) (by rfl) (by rfl)) rfl (bu (K:=K) rfl<|aw (aU (K:=K) rfl) (pv 4) (pv 6)<|fun _ _=>rfl) (fun _ _ _ _=>(bo (i:=0) (show Fg (["state","tablet","strip","at","loose","bound"]:List Str) by decide +kernel) rfl (by walk_at "L"))) (fun _ _ _ _=>cq) (fun _ _ _ _=>(pv 0))<|fun _ _ _ _=>(cv Z1m<|a5 (pv 1)<|a5 (aw (aU (K:=K) rfl) (pv 2) (pv 3)<|fun _ _=>rfl)<|a5 (pv 4)<|a5 (pv 5)<|a5 (pv 0) af)))
   (ag (dF (bY (K:=K) rfl (pv 5) (a5 (iT (dC hr) (N:=["state","moves","ahead"]) (cap:=[none,some 8,some 7]) (gZ rfl (by decide +kernel) rfl (by decide +kernel) (by rfl) (by rfl)) rfl (sA (P:=P) (w:=w) (K:=K) rfl rfl rfl (pv 8)) (fun _ _ _ _=>(bo (i:=0) (show Fg (["state","moves","ahead"]:List Str) by decide +kernel) rfl (by walk_at "L"))) (fun _ _ _ _=>cq) (fun _ _ _ _=>(pv 0)) (fun _ _ _ _=>(aB (rq (K:=K) rfl rfl) (by rfl) h_sum N3 (a5 (dG (N:=["turn","after","ahead"]) (cap:=[none,none,some 2]) (gZ rfl (by decide +kernel) rfl (by decide +kernel) (by rfl) (by rfl)) rfl (bu (K:=K) rfl (ir (P:=P) (w:=w) (K:=K) rfl rfl rfl (dC hr) (pv 1) (pv 0) (fun _ _=>rfl))) (fun _ _ _ _=>(bt (K:=K) (n:=2) rfl rfl (au (bo (i:=0) (show Fg (["turn","after","ahead"]:List Str) by decide +kernel) rfl (by walk_at "L")) (au (bo (i:=1) (show Fg (["turn","after","ahead"]:List Str) by decide +kernel) rfl (by walk_at "L")) br)))) (fun _ _ _ _=>cq) (fun _ _ _ _=>(ir (P:=P) (w:=w) (K:=K) rfl rfl rfl (dC hr) (pv 2) (pv 1) (fun _ _=>rfl)))) af)))) af)))))))
   (ag (ax (n9 (K:=K) rfl (fun a b=>[.ref a,.ref b]) (fun _ _=>rfl) (pv 5) (eO (gG f6 aa)))))))),?_⟩
  have E0:Ext W0 W0:=.refl W0;rw[show L2.start ["tablet","strip","loose","bound","lists","counts","at","ahead","moves"] [Z0g,Z0V,.int loose,.int bound]=[some Z0g,some Z0V,some<|.int loose,some<|.int bound,none,none,none,none,none]from rfl];unfold C6 at hq;refine ak (Er:=Er) (FR<|dP (aF Z03) (aF Z09) aO aO)<|(DE hq).imp fun y3 hq v4 W1 e2 h5=>?_;have E0:=E0.trans e2;have Z03:=DD e2.g Z03;have Z09:=DD e2.g Z09;refine cm (Er:=Er) (fZ (bM (NT (kE (R:=isI) (bN<|bL (FW<|aF h5)<|fE ah) (fun W8 D9 W12 a13 v14 s15 M16 hS17 e10 h11 e18 o19 h20 k21=>by
   refine gn ?_;exact⟨by simp[Keep,bh],uA (((kD e18 h11 (aF h20) ah):BV Er _ [some v14] _ _ _ _ _) _ _ _ (.refl _) o19 k21)⟩))) (fY (R:=(isPD P w K isI))))) ((DE hq).imp fun y26 hq p27 W6 e7 hp28 o29=>?_)
  have fr30:=aR E0.h hp28;have E0:=E0.trans e7;have Z03:=DD e7.g Z03;have Z09:=DD e7.g Z09;have h5:=DD e7.g h5;refine cx (Er:=Er) (f:=(Ae gA tablet strip loose bound y3)) (s0:=y26) (Iv:=fun(s33:(List<|List<|Ii×Int))(W34:Wd)(g35:St)=>∃(d37:Option V)(d38:Option V)(d39:Option V),g35=[some Z0g,some Z0V,some<|.int loose,some<|.int bound,some v4,some<|.ref p27,d39,d37,d38]/\Ext W0 W34/\Ow (isPD P w K isI) W34 p27 s33) (sD<|aN (cu<|FW<|aF h5) ah) (DE hq) ?_ ?_ ?_
  ·intro W51 e52;have E0:=E0.trans e52;have Z03:=DD e52.g Z03;have Z09:=DD e52.g Z09;have h5:=DD e52.g h5;have o29:=o29.mono e52;exact⟨_,_,_,rfl,E0,o29⟩
  ·intro Wb40 W41 W42 a31 v43 s32 sg44 P45 hW46 hB47 iv e48 h49 hq;obtain⟨d37,d38,d39,rfl,E0,o36⟩:=iv;have Z03:=DD hW46 Z03;have Z09:=DD hW46 Z09;have h5:=DD hW46 h5;have E0:=E0.trans e48;have hB47:=hB47.trans e48.g;have Z03:=DD e48.g Z03;have Z09:=DD e48.g Z09;have h5:=DD e48.g h5;have o36:=o36.mono e48;cases h49;refine gn (σ':=[some Z0g,some Z0V,some<|.int loose,some<|.int bound,some v4,some<|.ref p27,some<|.int a31,d37,d38]) ?_;unfold Ae at hq;refine ak (Er:=Er) (bL (cR o36)<|fE ah)<|(DE hq).imp fun y57 hq v58 W55 e56 h59=>?_;have E0:=E0.trans e56;have hB47:=hB47.trans e56.g;have Z03:=DD e56.g Z03;have Z09:=DD e56.g Z09;have h5:=DD e56.g h5;have o36:=o36.mono e56;refine ak (Er:=Er) (NT (kE (R:=(isL<|isT2 K isS<|qC K)) (f:=fun(a67:Ii)(s69:List (Ii×(List<|Tx×Ii)))=>((fc strip a31).bind fun y80=>gA tablet y80 loose bound a67).bind fun y81=>fv s69 a67 y81) (bN<|bL (FW<|aF h5) aO) (fun W62 D63 W66 a67 v68 s69 M70 hS71 e64 h65 e72 o73 h74 k75=>by
    have h76:=DD hS71 Z03;have h77:=DD hS71 Z09;refine gn ?_;exact⟨by simp[Keep,bh],uA (((kD e72 h65 (aF h74) (FR (fk (aF h76) (bL (FW (aF h77)) aO) aO aO (aF h74)))):BV Er _ [some v68,some Z0g,some Z0V,some (.int a31),some (.int loose),some (.int bound)] _ _ _ _ _) _ _ _ (.refl _) o73 k75)⟩))) ((DE hq).imp fun y83 hq v84 W60 e61 h85=>?_)
   have E0:=E0.trans e61;have hB47:=hB47.trans e61.g;have Z03:=DD e61.g Z03;have Z09:=DD e61.g Z09;have h5:=DD e61.g h5;have o36:=o36.mono e61;have h59:=DD e61.g h59;refine fH (Er:=Er) o36 (NT (kE (R:=isI) (vw<|aF h85) (fun W86 D87 W90 a91 v92 s93 M94 hS95 e88 h89 e96 o97 h98 k99=>by
    have h100:=DD hS95 h85;have h101:=DD hS95 h59;refine gn ?_;exact⟨by simp[Keep,bh],uA (((kD e96 h89 (aF h98) (zx (Ir (dH (bN<|jq (aF h100)<|aF h98) fun W106 a104 v105 e107 h108 Q114 k115=>by
     have h109:=EG (R:=sh (isPD P w K isI)) e107 h101;refine i5 h108 fun v110 v112 h111 h113=>?_;cases h111;exact⟨by simp[Keep,bh],((jq (aF h109) (aF h113)):EV Er _ [some (.str (sOf a104.1)),some v112,some v58] _ _ _) _ (.refl _) _ k115⟩)))):BV Er _ [some v92,some v84,some v58] _ _ _ _ _) _ _ _ (.refl _) o97 k99)⟩))) ((DE hq).imp fun y122 hq W119 mu120 o121=>?_)
   have E0:=mu120.e _ E0 fr30;have hB47:=hB47.trans mu120.g;have Z03:=DD mu120.g Z03;have Z09:=DD mu120.g Z09;have h5:=DD mu120.g h5;have h59:=DD mu120.g h59;have h85:=DD mu120.g h85
   try dsimp only
   refine bA (W:=W119) y122 hB47 ?_ hq;exact⟨_,_,_,rfl,E0,o121⟩
  ·intro s125 W126 sg127 hS128 iv hq;obtain⟨d37,d38,d39,rfl,E0,o36⟩:=iv;exact jg (Er:=Er) (wX<|cR o36)<|fun p129 W130 e131 hp132 o133=>hq p129 W130 (E0.trans e131) (aR E0.h hp132) o133
theorem Dw{f:Addr}{fd:Ee}(F:Fun K "chosen" "chosen" (tp 28) f fd):FnOk P w K mg base CX0 (1) f fd ["moves","counts","number"] (cI (isL<|isT2 K isS<|qC K) (isPD P w K isI) isI (rs<|isT3 K isS (qC K) isI)<|C7):=by
 have SC:FnScope ["moves","counts","number","at","turn","state"] ["moves","counts","number"] (defScope<|tp 28):=by walk_at "F"
 refine F.ok SC (fun vs H Q E h=>?_)<|fun cdv A outer s H vs Q E hr h=>?_;·obtain⟨_,_,_,_,_,_,_,_,rfl,_⟩:=h;rfl
 ·obtain⟨W0,moves,counts,number,Z50,Z4N,_,rfl,rfl,Z0N,Z0Q,Z3G,Er,hq⟩:=h;cases Z3G;refine⟨_,(ae (bW 3 aa)
   (ae (mO Ec (aq mP (pv 2) (ir (P:=P) (w:=w) (K:=K) rfl rfl rfl (dC hr) (pv 1) (aw (aA (K:=K) rfl) (aw (aU (K:=K) rfl) (pv 0) (pv 3)<|fun _ _=>rfl) aa<|fun _ _=>rfl)<|fun _ _=>rfl)<|ay _) (ae (lF (i:=2) SC.nd rfl (by walk_at "L") (ir (P:=P) (w:=w) (K:=K) rfl rfl rfl (dC hr) (pv 1) (aw (aA (K:=K) rfl) (aw (aU (K:=K) rfl) (pv 0) (pv 3)<|fun _ _=>rfl) aa<|fun _ _=>rfl)<|fun _ _=>rfl) yX)
   (ag (lF (i:=3) SC.nd rfl (by walk_at "L") aa tq))))
   (ae (de (aw (aU (K:=K) rfl) (pv 0) (pv 3)<|fun _ _=>rfl)<|bt (K:=K) (n:=2) rfl rfl<|au (du 4)<|au (du 5) br)
   (ag (ax (bJ (a5 (pv 4) (a5 (pv 5) (a5 (pv 2) af))))))))),?_⟩
  have E0:Ext W0 W0:=.refl W0;unfold C7 at hq;refine ak (Er:=Er) ah<|fun v3 W1 e2 h4=>?_;cases h4;have E0:=E0.trans e2;have Z0N:=DD e2.g Z0N;have Z0Q:=DD e2.g Z0Q;refine jU (Er:=Er) (c:=(Af moves counts)) (f:=(Ag moves counts)) (s0:=(number,(0:Int))) (n:=cap) (Iv:=fun(s7:Ii)(W8:Wd)(g9:St)=>g9=[some Z50,some Z4N,some<|.int s7.1,some<|.int s7.2,none,none]/\Ext W0 W8) (DE hq) ?_ ?_ ?_ ?_ ?_;·exact⟨rfl,E0⟩
  ·intro W11 W12 s6 sg13 e17 iv;obtain⟨rfl,E0⟩:=iv;have E0:=E0.trans e17;exact⟨rfl,E0⟩
  ·intro W11 s6 sg13 hW15 iv;obtain⟨rfl,E0⟩:=iv;have Z0N:=DD hW15 Z0N;have Z0Q:=DD hW15 Z0Q;unfold Af;exact(ar<|bH aO<|jq (aF Z0Q)<|aK (f:=fun(b:Tx×Ii)=>b.2) zu<|bL (FW<|aF Z0N) aO)
  ·intro Wb10 W11 s6 sg13 P14 hW15 hB16 iv hq;obtain⟨rfl,E0⟩:=iv;have Z0N:=DD hW15 Z0N;have Z0Q:=DD hW15 Z0Q;unfold Ag at hq;refine rP (Er:=Er) (a:=s6.1) (jq (aF Z0Q)<|aK (f:=fun(b:Tx×Ii)=>b.2) zu<|bL (FW<|aF Z0N) aO)<|(DE hq).imp fun y23 hq W24 e25=>?_;have E0:=E0.trans e25;have hB16:=hB16.trans e25.g;have Z0N:=DD e25.g Z0N;have Z0Q:=DD e25.g Z0Q;refine lX (Er:=Er) (a:=s6.2) ah<|fun W26 e27=>?_;have E0:=E0.trans e27;have hB16:=hB16.trans e27.g;have Z0N:=DD e27.g Z0N;have Z0Q:=DD e27.g Z0Q
   try dsimp only
   refine bA (W:=W26) ((s6.1-y23),(s6.2+(1:Int))) hB16 ?_ hq;exact⟨rfl,E0⟩
  ·intro s28 W29 sg30 hS31 iv hq;obtain⟨rfl,E0⟩:=iv;have Z0N:=DD hS31 Z0N;refine dz (Er:=Er) (bL (FW<|aF Z0N) aO)<|(DE hq).imp fun y32 hq v33 W34 e35 h36=>?_;have E0:=E0.trans e35;refine i5 h36 fun v37 v39 h38 h40=>?_;cases h38;exact aE (Er:=Er) (bR (K:=K) cD (aF h40) aO)<|fun v41 W42 e43 h44=>hq v41 W42 (E0.trans e43) h44
theorem Bp{f:Addr}{fd:Ee}(F:Fun K "way" "way" (tp 27) f fd){xI:Cd->(List Pl)->Int->Int->Res (List<|List<|Ii×Int)}{pD:(List<|Tx×Ii)->(List<|Ii×Int)->Int->Res (Tx×Ii×Int)}{gA:Cd->Pl->Int->Int->Ii->Res (List<|Tx×Ii)}(Z41:Cal P w K mg base "tails" ["tablet","strip","loose","bound"] (7) (gE (qA K) (qD K) isI isI (ro<|isPD P w K isI) xI))(Z3H:Cal P w K mg base "chosen" ["moves","counts","number"] (1) (cI (isL<|isT2 K isS<|qC K) (isPD P w K isI) isI (rs<|isT3 K isS (qC K) isI) pD))(Z1m:Cal P w K mg base "onward" ["tablet","mark","loose","bound","state"] (4) (eK (qA K) (qB K) isI isI (qC K) (ro<|isT2 K isS<|qC K) gA))(h_enumerate:mg "enumerate"=none){Z1L:Addr}(Z1U:mg "START"=some (.ref Z1L))(Z1V:∀H,SqT K H Z1L [.int (0),.int<|0]):FnOk P w K mg base CX0 (8) f fd ["tablet","strip","loose","bound","number"] (eK (qA K) (qD K) isI isI isI (rs isS)<|qL xI pD gA):=by
 have SC:FnScope ["tablet","strip","loose","bound","number","counts","column","state","at","mark","turn"] ["tablet","strip","loose","bound","number"] (defScope<|tp 27):=by walk_at "F"
 refine F.ok SC (fun vs H Q E h=>?_)<|fun cdv A outer s H vs Q E hr h=>?_;·obtain⟨_,_,_,_,_,_,_,_,_,_,_,_,rfl,_⟩:=h;rfl
 ·obtain⟨W0,tablet,strip,loose,bound,number,Z0g,Z0V,_,_,_,rfl,rfl,Z03,Z09,Z0M,Z1d,Z3G,Er,hq⟩:=h;cases Z0M;cases Z1d;cases Z3G;refine⟨_,(ae (bW 5<|cv Z41<|a5 (pv 0)<|a5 (pv 1)<|a5 (pv 2)<|a5 (pv 3) af)
   (ae (aT (Ik (eN (aq jv (pv 4) aa<|ay _) (dW (aq mP (pv 4) (vo (dC hr) (aw (aU (K:=K) rfl) (pv 5) aa<|fun _ _=>rfl) (cN (v:=.ref _) (by rfl) Z1U rfl) aa)<|ay _)))) (ag ux) aG)
   (ae (bW 6 aM)
   (ae (bW 7 (cN (v:=.ref _) (by rfl) Z1U rfl))
   (ae (bC Ec rfl (wK (K:=K) rfl rfl h_enumerate<|a5 (pv 1) af) (bt (K:=K) (n:=2) rfl rfl<|au (du 8)<|au (du 9) br) (ae (de (cv Z3H<|a5 (cv Z1m<|a5 (pv 0)<|a5 (pv 9)<|a5 (pv 2)<|a5 (pv 3)<|a5 (pv 7) af)<|a5 (aw (aU (K:=K) rfl) (pv 5) (aj aX (pv 8) aa)<|fun _ _=>rfl)<|a5 (pv 4) af)<|bt (K:=K) (n:=3) rfl rfl<|au (du 10)<|au (du 7)<|au (du 4) br)
   (ag (lF (i:=6) SC.nd rfl (by walk_at "L") (pv 10) xo))))
   (ag (ax (pv 6)))))))),?_⟩
  have E0:Ext W0 W0:=.refl W0;unfold qL at hq;refine ak (Er:=Er) (FR<|dP (aF Z03) (aF Z09) aO aO)<|(DE hq).imp fun y3 hq v4 W1 e2 h5=>?_;have E0:=E0.trans e2;have Z03:=DD e2.g Z03;have Z09:=DD e2.g Z09;refine bp (Er:=Er) (eS (ar<|bH aO ah)<|ar<|bH aO<|vt (bL (FW<|aF h5) ah) (i7 Z1V (gI _)<|gI _) ah)<|(DE hq).imp fun y8 hq W9 e10=>?_;have E0:=E0.trans e10;have Z03:=DD e10.g Z03;have Z09:=DD e10.g Z09;have h5:=DD e10.g h5;by_cases hb73:y8=true
  ·rw[if_pos hb73]at hq ⊢;exact hq.elim
  ·rw[if_neg hb73]at hq ⊢
   try dsimp only[aV]
   refine ak (Er:=Er) (aP (x:=DP "") (l:=[]) (eP _ _ (by decide +kernel)))<|fun v13 W11 e12 h14=>?_;cases h14;have E0:=E0.trans e12;have Z03:=DD e12.g Z03;have Z09:=DD e12.g Z09;have h5:=DD e12.g h5;refine ak (Er:=Er) (i7 Z1V (gI _)<|gI _)<|fun v17 W15 e16 h18=>?_;have E0:=E0.trans e16;have Z03:=DD e16.g Z03;have Z09:=DD e16.g Z09;have h5:=DD e16.g h5;refine cx (Er:=Er) (f:=(eF pD gA tablet loose bound y3)) (s0:=((0,0),number,([]:Tx))) (Iv:=fun(s21:(Ii×Int×Tx))(W22:Wd)(g23:St)=>∃(v24:V)(d26:Option V)(d27:Option V)(d28:Option V),g23=[some Z0g,some Z0V,some<|.int loose,some<|.int bound,some<|.int s21.2.1,some v4,some<|.str<|sOf s21.2.2,some v24,d27,d28,d26]/\Ext W0 W22/\(qC K) W22.G s21.1 v24) (wO<|aF Z09) (DE hq) ?_ ?_ ?_
   ·intro W40 e41;have E0:=E0.trans e41;have Z03:=DD e41.g Z03;have h5:=DD e41.g h5;have h18:=DD e41.g h18;exact⟨_,_,_,_,rfl,E0,h18⟩
   ·intro Wb29 W30 W31 a19 v32 s20 sg33 P34 hW35 hB36 iv e37 h38 hq;obtain⟨v24,d26,d27,d28,rfl,E0,h25⟩:=iv;have Z03:=DD hW35 Z03;have h5:=DD hW35 h5;have E0:=E0.trans e37;have hB36:=hB36.trans e37.g;have Z03:=DD e37.g Z03;have h5:=DD e37.g h5;have h25:=DD e37.g h25;refine i5 h38 fun v46 v48 h47 h49=>?_;cases h47;unfold eF at hq;refine dz (Er:=Er) (dw (FR<|fk (aF Z03) (aF h49) aO aO<|aF h25) (bL (FW<|aF h5)<|aN aO ah) aO)<|(DE hq).imp fun y52 hq v53 W54 e55 h56=>?_;have E0:=E0.trans e55;have hB36:=hB36.trans e55.g;have Z03:=DD e55.g Z03;have h5:=DD e55.g h5;have h49:=DD e55.g h49;refine oQ h56 fun v57 v59 v61 h58 h60 h62=>?_;cases h58;cases h62;refine xp (Er:=Er) (a:=s20.2.2) cD<|(DE hq).imp fun y65 hq W63 e64=>?_;have E0:=E0.trans e64;have hB36:=hB36.trans e64.g;have Z03:=DD e64.g Z03;have h5:=DD e64.g h5;have h49:=DD e64.g h49;have h60:=DD e64.g h60
    try dsimp only
    refine bA (W:=W63) (y52.2.1,y52.2.2,y65) hB36 ?_ hq;exact⟨_,_,_,_,rfl,E0,h60⟩
   ·intro s66 W67 sg68 hS69 iv hq;obtain⟨v24,d26,d27,d28,rfl,E0,h25⟩:=iv;exact aE (Er:=Er) cD<|fun v70 W71 e72 h73=>hq v70 W71 (E0.trans e72) h73
theorem Dx{f:Addr}{fd:Ee}(F:Fun K "restore" "restore" (tp 30) f fd){wj:Cd->(List Pl)->Int->Res (Option Int)}{iD:Cd->(List Pl)->Int->Int->Res (List<|List Ii)}{gL:Cd->(List Pl)->Int->Int->Int->Res Tx}(Z42:Cal P w K mg base "least" ["tablet","strip","loose"] (7) (cI (qA K) (qD K) isI (rs<|isO isI) wj))(Z0Y:Cal P w K mg base "search" ["tablet","strip","loose","bound"] (6) (gE (qA K) (qD K) isI isI (ro<|qE K) iD))(C_way:Cal P w K mg base "way" ["tablet","strip","loose","bound","number"] (8) (eK (qA K) (qD K) isI isI isI (rs isS) gL))(h_len:mg "len"=none):FnOk P w K mg base CX0 (9) f fd ["tablet","strip","loose"] (cI (qA K) (qD K) isI (rs<|isT3 K (isO isI) (isO isS)<|isL<|qE K)<|C8 wj iD gL):=by
 have SC:FnScope ["tablet","strip","loose","bound","lists"] ["tablet","strip","loose"] (defScope<|tp 30):=by walk_at "F"
 refine F.ok SC (fun vs H Q E h=>?_)<|fun cdv A outer s H vs Q E hr h=>?_;·obtain⟨_,_,_,_,_,_,_,_,rfl,_⟩:=h;rfl
 ·obtain⟨W0,tablet,strip,loose,Z0g,Z0V,_,rfl,rfl,Z03,Z09,Z0M,Er,hq⟩:=h;cases Z0M;refine⟨_,(ae (bW 3<|cv Z42<|a5 (pv 0)<|a5 (pv 1)<|a5 (pv 2) af)
   (ae (aT (aq oA (pv 3) iE<|ay _) (ag (ax (bJ (a5 iE (a5 iE (a5 (cv Z0Y (a5 (pv 0) (a5 (pv 1) (a5 (pv 2) (a5 (aB (aW (K:=K) rfl) (by rfl) h_len EK<|a5 (pv 1) af) af))))) af)))))) aG)
   (ae (bW 4<|dX (aq jw (pv 3) aa<|ay _) (cv Z0Y<|a5 (pv 0)<|a5 (pv 1)<|a5 (pv 2)<|a5 (aj fA (pv 3) aa) af)<|bK af)
   (ag (ax (bJ (a5 (pv 3) (a5 (cv C_way (a5 (pv 0) (a5 (pv 1) (a5 (pv 2) (a5 (pv 3) (a5 aa af)))))) (a5 (pv 4) af))))))))),?_⟩
  have E0:Ext W0 W0:=.refl W0;unfold C8 at hq;refine ak (Er:=Er) (dw (aF Z03) (aF Z09) aO)<|(DE hq).imp fun y3 hq v4 W1 e2 h5=>?_;have E0:=E0.trans e2;have Z03:=DD e2.g Z03;have Z09:=DD e2.g Z09;refine bp (Er:=Er) (ar<|oN<|aF h5)<|fun W6 e7=>?_;have E0:=E0.trans e7;have Z03:=DD e7.g Z03;have Z09:=DD e7.g Z09;have h5:=DD e7.g h5;by_cases hb30:y3.isNone=true
  ·rw[if_pos hb30]at hq ⊢;exact aE (Er:=Er) (bR (K:=K) (lR (R:=isI)) (lR (R:=isS))<|FR<|dP (aF Z03) (aF Z09) aO<|cu<|FW<|aF Z09)<|En hq fun y9 hq v10 W11 e12 h13=>hq v10 W11 (E0.trans e12) h13
  ·rw[if_neg hb30]at hq ⊢
   try dsimp only[aV]
   refine ak (Er:=Er) (jJ (ar<|bH (gc<|aF h5) ah) (FR<|dP (aF Z03) (aF Z09) aO<|aN (gc<|aF h5) ah)<|FR<|eT (R:=(qE K)))<|(DE hq).imp fun y20 hq v21 W14 e15 h22=>?_;have E0:=E0.trans e15;have Z03:=DD e15.g Z03;have Z09:=DD e15.g Z09;have h5:=DD e15.g h5;exact aE (Er:=Er) (bR (K:=K) (aF h5) (nk<|i4 (aF Z03) (aF Z09) aO (gc<|aF h5) ah)<|aF h22)<|En hq fun y26 hq v27 W28 e29 h30=>hq v27 W28 (E0.trans e29) h30
theorem Dy{f:Addr}{fd:Ee}(F:Fun K "_law_states" "_law_states" (tp 50) f fd)(h_bool:mg "bool"=none)(h_int:mg "int"=none)(h_isinstance:mg "isinstance"=none)(h_len:mg "len"=none)(h_list:mg "list"=none)(h_tuple:mg "tuple"=none):FnOk P w K mg base CX0 (1) f fd ["_law_lists"] (cY (isL<|qE K) (rs isB)<|C9):=by
 have SC:FnScope ["_law_lists","_law_states_here","_law_state","_law_number"] ["_law_lists"] (defScope<|tp 50):=by walk_at "F"
 refine F.ok SC (fun vs H Q E h=>?_)<|fun cdv A outer s H vs Q E hr h=>?_;·obtain⟨_,_,_,_,rfl,_⟩:=h;rfl
 ·obtain⟨W0,Z0D,Z0s,rfl,rfl,Z0h,Er,hq⟩:=h
  refine⟨_,(ae (aT (d9 (bS (aB (bb (K:=K) rfl) (by rfl) h_isinstance Ej (a5 (pv 0) (a5 (cE (v:=.ty "list") (by rfl) h_list FD rfl) af))))) (ag<|ax cz) aG)
   (ae (bC Ec rfl (bu (K:=K) rfl<|pv 0) (du 1) (ae (aT (d9 (bS (aB (bb (K:=K) rfl) (by rfl) h_isinstance Ej (a5 (pv 1) (a5 (cE (v:=.ty "list") (by rfl) h_list FD rfl) af))))) (ag<|ax cz) aG)
   (ag (bC Ec rfl (bu (K:=K) rfl<|pv 1) (du 2) (ae (aT (Ik (eN (d9 (bS (aB (bb (K:=K) rfl) (by rfl) h_isinstance Ej (a5 (pv 2) (a5 (cE (v:=.ty "tuple") (by rfl) h_tuple Gh rfl) af))))) (dW (aq fQ (aB (aW (K:=K) rfl) (by rfl) h_len EK<|a5 (pv 2) af) aa<|ay _)))) (ag<|ax cz) aG)
   (ag (bC Ec rfl (wZ (K:=K) rfl (pv 2)) (du 3) (ag (aT (Ik (eN (d9 (bS (aB (bb (K:=K) rfl) (by rfl) h_isinstance Ej (a5 (pv 3) (a5 (cE (v:=.ty "int") (by rfl) h_int Gz rfl) af))))) (dW (bS (aB (bb (K:=K) rfl) (by rfl) h_isinstance Ej (a5 (pv 3) (a5 (cE (v:=.ty "bool") (by rfl) h_bool K2 rfl) af))))))) (ag (ax cz)) aG)))))))))
   (ag (ax cz)))),?_⟩
  have E0:Ext W0 W0:=.refl W0;unfold C9 at hq;refine bp (Er:=Er) (dg (fj (cf (j:=3) (by decide)<|dD (K:=K) (u:=fun(z:List (List Ii))=>HM<|z.map fun(z:List Ii)=>HM<|z.map fun(z:Ii)=>Hs [Fh z.1,Fh z.2]) (j4 (u:=fun(z:List Ii)=>HM<|z.map fun(z:Ii)=>Hs [Fh z.1,Fh z.2])<|j4 (u:=fun(z:Ii)=>Hs [Fh z.1,Fh z.2])<|jT cT cT)<|aF Z0h)))<|fun W1 e2=>?_;have E0:=E0.trans e2;have Z0h:=DD e2.g Z0h;by_cases hb108:(!(bT 3<|(fun(z:List (List Ii))=>HM<|z.map fun(z:List Ii)=>HM<|z.map fun(z:Ii)=>Hs [Fh z.1,Fh z.2]) Z0D))=true
  ·rw[if_pos hb108]at hq ⊢;exact aE (Er:=Er) cA<|fun v3 W4 e5 h6=>hq v3 W4 (E0.trans e5) h6
  ·rw[if_neg hb108]at hq ⊢
   try dsimp only[aV]
   refine dQ (Er:=Er) (f:=Bj) (s0:=()) (Iv:=fun(s9:Unit)(W10:Wd)(g11:St)=>∃(d12:Option V)(d13:Option V)(d14:Option V),g11=[some Z0s,d14,d12,d13]/\Ext W0 W10) (bN<|aF Z0h) (DE hq) ?_ ?_ ?_
   ·intro W26 e27;have E0:=E0.trans e27;exact⟨_,_,_,rfl,E0⟩
   ·intro Wb15 W16 W17 a7 v18 s8 sg19 P20 hW21 hB22 iv e23 h24 hrt25 hq;obtain⟨d12,d13,d14,rfl,E0⟩:=iv;have E0:=E0.trans e23;have hB22:=hB22.trans e23.g;refine gn (σ':=[some Z0s,some v18,d12,d13]) ?_;unfold Bj at hq;refine bp (Er:=Er) (dg (fj (cf (j:=3) (by decide)<|dD (K:=K) (u:=fun(z:List Ii)=>HM<|z.map fun(z:Ii)=>Hs [Fh z.1,Fh z.2]) (j4 (u:=fun(z:Ii)=>Hs [Fh z.1,Fh z.2])<|jT cT cT)<|aF h24)))<|fun W30 e31=>?_;have E0:=E0.trans e31;have hB22:=hB22.trans e31.g;have h24:=DD e31.g h24;by_cases hb100:(!(bT 3<|(fun(z:List Ii)=>HM<|z.map fun(z:Ii)=>Hs [Fh z.1,Fh z.2]) a7))=true
    ·rw[if_pos hb100]at hq ⊢;exact aE (Er:=Er) cA<|fun v32 W33 e34 h35=>(hrt25 _ hq) v32 W33 (E0.trans e34) h35
    ·rw[if_neg hb100]at hq ⊢
     try dsimp only[aV]
     refine gw (Er:=Er) (f:=Bi) (s0:=()) (Iv:=fun(s38:Unit)(W39:Wd)(g40:St)=>∃(d41:Option V)(d42:Option V),g40=[some Z0s,some v18,d42,d41]/\Ext W0 W39) (bN<|aF h24) (DE hq) ?_ ?_ ?_
     ·intro W54 e55;have E0:=E0.trans e55;have hB22:=hB22.trans e55.g;have h24:=DD e55.g h24;exact⟨_,_,rfl,E0⟩
     ·intro Wb43 W44 W45 a36 v46 s37 sg47 P48 hW49 hB50 iv e51 h52 hrt53 hq;obtain⟨d41,d42,rfl,E0⟩:=iv;have hB22:=hB22.trans hW49;have h24:=DD hW49 h24;have E0:=E0.trans e51;have hB22:=hB22.trans e51.g;have hB50:=hB50.trans e51.g;have h24:=DD e51.g h24;refine gn (σ':=[some Z0s,some v18,some v46,d41]) ?_;unfold Bi at hq;refine bp (Er:=Er) (eS (dg (fj (cf (j:=4) (by decide)<|dD (K:=K) (jT cT cT)<|aF h52)))<|ar<|lS (vA<|aF h52) ah)<|(DE hq).imp fun y58 hq W59 e60=>?_;have E0:=E0.trans e60;have hB22:=hB22.trans e60.g;have hB50:=hB50.trans e60.g;have h24:=DD e60.g h24;have h52:=DD e60.g h52;by_cases hb96:y58=true
      ·rw[if_pos hb96]at hq ⊢;exact aE (Er:=Er) cA<|fun v61 W62 e63 h64=>(hrt25 _<|hrt53 _ hq) v61 W62 (E0.trans e63) h64
      ·rw[if_neg hb96]at hq ⊢
       try dsimp only[aV]
       refine gw (Er:=Er) (f:=Bh) (s0:=()) (Iv:=fun(s67:Unit)(W68:Wd)(g69:St)=>∃(d70:Option V),g69=[some Z0s,some v18,some v46,d70]/\Ext W0 W68) (xq<|aF h52) (DE hq) ?_ ?_ ?_
       ·intro W82 e83;have E0:=E0.trans e83;have hB22:=hB22.trans e83.g;have hB50:=hB50.trans e83.g;have h24:=DD e83.g h24;have h52:=DD e83.g h52;exact⟨_,rfl,E0⟩
       ·intro Wb71 W72 W73 a65 v74 s66 sg75 P76 hW77 hB78 iv e79 h80 hrt81 hq;obtain⟨d70,rfl,E0⟩:=iv;have hB22:=hB22.trans hW77;have hB50:=hB50.trans hW77;have h24:=DD hW77 h24;have h52:=DD hW77 h52;have E0:=E0.trans e79;have hB22:=hB22.trans e79.g;have hB50:=hB50.trans e79.g;have hB78:=hB78.trans e79.g;have h24:=DD e79.g h24;have h52:=DD e79.g h52;cases h80;refine gn (σ':=[some Z0s,some v18,some v46,some<|.int a65]) ?_;unfold Bh at hq;refine ng (Er:=Er) (eS (dg (fj (cf (j:=1) (by decide)<|dD (K:=K) cT aO))) (fj (cf (j:=0) (by decide)<|dD (K:=K) cT aO)))<|(DE hq).imp fun y86 hq W87 e88=>?_;have E0:=E0.trans e88;have hB22:=hB22.trans e88.g;have hB50:=hB50.trans e88.g;have hB78:=hB78.trans e88.g;have h24:=DD e88.g h24;have h52:=DD e88.g h52;by_cases hb92:y86=true
        ·rw[if_pos hb92]at hq ⊢;exact aE (Er:=Er) cA<|fun v89 W90 e91 h92=>(hrt25 _<|hrt53 _<|hrt81 _ hq) v89 W90 (E0.trans e91) h92
        ·rw[if_neg hb92]at hq ⊢
         try dsimp only[aV]
         try dsimp only
         refine bA (W:=W87) () hB78 ?_ hq;exact⟨_,rfl,E0⟩
       ·intro s93 W94 sg95 hS96 iv hq;obtain⟨d70,rfl,E0⟩:=iv;have hB22:=hB22.trans hS96;have hB50:=hB50.trans hS96;have h24:=DD hS96 h24;have h52:=DD hS96 h52
        try dsimp only
        refine bA (W:=W94) () hB50 ?_ hq;exact⟨_,_,rfl,E0⟩
     ·intro s97 W98 sg99 hS100 iv hq;obtain⟨d41,d42,rfl,E0⟩:=iv;have hB22:=hB22.trans hS100;have h24:=DD hS100 h24
      try dsimp only
      refine bA (W:=W98) () hB22 ?_ hq;exact⟨_,_,_,rfl,E0⟩
   ·intro s101 W102 sg103 hS104 iv hq;obtain⟨d12,d13,d14,rfl,E0⟩:=iv;exact aE (Er:=Er) cA<|fun v105 W106 e107 h108=>hq v105 W106 (E0.trans e107) h108
theorem Dz{f:Addr}{fd:Ee}(F:Fun K "_law_next" "_law_next" (tp 51) f fd){fL:Cd->Tx->Res Int}(Z0K:Cal P w K mg base "_law_twist" ["_law_card_here","_law_turn"] (2) (bz (qA K) isS (rs isI) fL))(h_abs:mg "abs"=none)(h_int:mg "int"=none)(h_zip:mg "zip"=none):FnOk P w K mg base CX0 (3) f fd ["_law_card_here","_law_mark","_law_loose","_law_bound","_law_state"] (eK (qA K) (qB K) isI isI (qC K) (ro<|qC K)<|Ca fL):=by
 have SC:FnScope ["_law_card_here","_law_mark","_law_loose","_law_bound","_law_state","_law_out","_law_turn","_law_step","_law_now","_law_idle","_law_hole","_law_good","_law_sign","_law_left"] ["_law_card_here","_law_mark","_law_loose","_law_bound","_law_state"] (defScope<|tp 51):=by walk_at "F"
 refine F.ok SC (fun vs H Q E h=>?_)<|fun cdv A outer s H vs Q E hr h=>?_;·obtain⟨_,_,_,_,_,_,_,_,_,_,_,_,rfl,_⟩:=h;rfl
 ·obtain⟨W0,Z01,Z21,Z0b,Z0e,Z0G,Z08,Z2c,_,_,Z1W,rfl,rfl,Z00,Z0a,Z1C,Z2j,Z07,Er,hq⟩:=h;cases Z1C;cases Z2j;refine⟨_,(ae (bW 5<|bK af)
   (ae (bC Ec rfl (iL aM) (du 6) (ae (bW 7<|cv Z0K<|a5 (pv 0)<|a5 (pv 6) af)
   (ae (bW 8<|aj aX (aw (aA (K:=K) rfl) (pv 4) aa<|fun _ _=>rfl)<|pv 7)
   (ae (bW 9 (aj dZ (aj aX (aw (aA (K:=K) rfl) (pv 4) aa<|fun _ _=>rfl) aa) (cJ iJ (by rfl) h_int Gz<|a5 (cF cb (pv 6) aM<|ay _) af)))
   (ae (bW 10<|aj aJ (aj aX (aw (aA (K:=K) rfl) (pv 0) aa<|fun _ _=>rfl)<|pv 8) aa)
   (ae (aT (aq cb (aw (aA (K:=K) rfl) (pv 0) aa<|fun _ _=>rfl) aM<|ay _) (ag<|bW 10<|aj aJ (aj fA (aw (aA (K:=K) rfl) (pv 0) aa<|fun _ _=>rfl)<|pv 8) aa) aG)
   (ae (bW 11 (oo (cF pP (aB gY (by rfl) h_abs Hl<|a5 (pv 8) af) (pv 3)<|ay _)<|lE<|cF pP (pv 9) (pv 2)<|ay _))
   (ae (bC Ec rfl (fD (K:=K) rfl rfl h_zip<|a5 (bJ<|a5 (aw bD (aw (aA (K:=K) rfl) (pv 0) aa<|fun _ _=>rfl) (pv 10)<|fun _ _=>rfl)<|a5 (aw bD (aw (aA (K:=K) rfl) (pv 0) aa<|fun _ _=>rfl) (aj aJ (aj aX (pv 10) aa) aa)<|fun _ _=>rfl)<|a5 (aw bD aM (aj aX (pv 7) aa)<|fun _ _=>rfl) af)<|a5 (pv 1) af) (bt (K:=K) (n:=2) rfl rfl<|au (du 12)<|au (du 13) br)<|ag<|aT (Ik<|fz (aq fQ (pv 13) aM<|ay _)<|eM<|aq fQ (pv 13) (pv 12)<|ay _) (ag<|bW 11 cz) aG)
   (ag (aT (bS (pv 11)) (ag (dF (bY (K:=K) rfl (pv 5) (a5 (bJ (a5 (pv 8) (a5 (pv 9) af))) af)))) aG))))))))))
   (ag (ax (pv 5))))),?_⟩
  have E0:Ext W0 W0:=.refl W0;unfold Ca at hq;refine cm (Er:=Er) (eT (R:=(qC K)))<|fun p3 W1 e2 hp4 o5=>?_;have fr6:=aR E0.h hp4;have E0:=E0.trans e2;have Z00:=DD e2.g Z00;have Z0a:=DD e2.g Z0a;have Z07:=DD e2.g Z07;refine cx (Er:=Er) (f:=(yE fL Z01 Z21 Z0b Z0e Z0G)) (s0:=([]:List Ii)) (Iv:=fun(s9:(List Ii))(W10:Wd)(g11:St)=>∃(d13:Option V)(d14:Option V)(d15:Option V)(d16:Option V)(d17:Option V)(d18:Option V)(d19:Option V)(d20:Option V),g11=[some Z08,some Z2c,some<|.int Z0b,some<|.int Z0e,some Z1W,some<|.ref p3,d20,d13,d14,d15,d16,d17,d18,d19]/\Ext W0 W10/\Ow (qC K) W10 p3 s9) (iQ (aP (x:=DP "fbi") (l:=[102,98,105]) (eP _ _ (by decide +kernel)))) (DE hq) ?_ ?_ ?_
  ·intro W32 e33;have E0:=E0.trans e33;have Z00:=DD e33.g Z00;have Z0a:=DD e33.g Z0a;have Z07:=DD e33.g Z07;have o5:=o5.mono e33;exact⟨_,_,_,_,_,_,_,_,rfl,E0,o5⟩
  ·intro Wb21 W22 W23 a7 v24 s8 sg25 P26 hW27 hB28 iv e29 h30 hq;obtain⟨d13,d14,d15,d16,d17,d18,d19,d20,rfl,E0,o12⟩:=iv;have Z00:=DD hW27 Z00;have Z0a:=DD hW27 Z0a;have Z07:=DD hW27 Z07;have E0:=E0.trans e29;have hB28:=hB28.trans e29.g;have Z00:=DD e29.g Z00;have Z0a:=DD e29.g Z0a;have Z07:=DD e29.g Z07;have o12:=o12.mono e29;cases h30;refine gn (σ':=[some Z08,some Z2c,some<|.int Z0b,some<|.int Z0e,some Z1W,some<|.ref p3,some<|.str<|sOf a7,d13,d14,d15,d16,d17,d18,d19]) ?_;unfold yE at hq;refine ak (Er:=Er) (aQ (aF Z00) cD)<|(DE hq).imp fun y38 hq v39 W36 e37 h40=>?_;cases h40;have E0:=E0.trans e37;have hB28:=hB28.trans e37.g;have Z00:=DD e37.g Z00;have Z0a:=DD e37.g Z0a;have Z07:=DD e37.g Z07;have o12:=o12.mono e37;refine ak (Er:=Er) (aN (aK (f:=fun(b:Ii)=>b.1) zt<|aF Z07) aO)<|fun v43 W41 e42 h44=>?_;cases h44;have E0:=E0.trans e42;have hB28:=hB28.trans e42.g;have Z00:=DD e42.g Z00;have Z0a:=DD e42.g Z0a;have Z07:=DD e42.g Z07;have o12:=o12.mono e42;refine ak (Er:=Er) (iO (aN (aK (f:=fun(b:Ii)=>b.2) zu<|aF Z07) ah) (lV (fF cD (aP (x:=DP "i") (l:=[105]) (eP _ _ (by decide +kernel))))))<|(DE hq).imp fun y47 hq v48 W45 e46 h49=>?_;cases h49;have E0:=E0.trans e46;have hB28:=hB28.trans e46.g;have Z00:=DD e46.g Z00;have Z0a:=DD e46.g Z0a;have Z07:=DD e46.g Z07;have o12:=o12.mono e46;refine ak (Er:=Er) (ao (fun _=>by decide)<|aN (aK (f:=fun(b:Cd)=>b.2.2) gQ<|aF Z00) aO)<|fun v52 W50 e51 h53=>?_;cases h53;have E0:=E0.trans e51;have hB28:=hB28.trans e51.g;have Z00:=DD e51.g Z00;have Z0a:=DD e51.g Z0a;have Z07:=DD e51.g Z07;have o12:=o12.mono e51;refine bI (Er:=Er) (Iv:=fun(s69:Int)(W70:Wd)(g71:St)=>g71=[some Z08,some Z2c,some<|.int Z0b,some<|.int Z0e,some Z1W,some<|.ref p3,some<|.str<|sOf a7,some<|.int y38,some<|.int<|Z0G.1+y38,some<|.int y47,some<|.int s69,d17,d18,d19]/\Ext W0 W70/\Ow (qC K) W70 p3 s8) (ar (fF (aK (f:=fun(b:Cd)=>b.1) gD<|aF Z00) (aP (x:=DP "Z") (l:=[90]) (eP _ _ (by decide +kernel))))) (DE hq) ?_ ?_ ?_
   ·intro W54 N57 e55 hN58 hq;have hs59:=e55.g;have E0:=E0.trans e55;have hB28:=hB28.trans e55.g;have Z00:=DD e55.g Z00;have Z0a:=DD e55.g Z0a;have Z07:=DD e55.g Z07;have o12:=o12.mono e55;refine cC (Er:=Er) (ao (fun _=>by decide)<|aN (aK (f:=fun(b:Cd)=>b.2.2) gQ<|aF Z00) aO)<|fun v62 W60 e61 h63=>?_;cases h63;have E0:=E0.trans e61;have hB28:=hB28.trans e61.g;have hs59:=hs59.trans e61.g;have Z00:=DD e61.g Z00;have Z0a:=DD e61.g Z0a;have Z07:=DD e61.g Z07;have o12:=o12.mono e61;exact hN58 ((Z01.2.2-(Z0G.1+y38))%4) W60 _ hs59 ⟨rfl,E0,o12⟩ hq
   ·intro W54 N57 e55 hN58 hq;have hs64:=e55.g;have E0:=E0.trans e55;have hB28:=hB28.trans e55.g;have Z00:=DD e55.g Z00;have Z0a:=DD e55.g Z0a;have Z07:=DD e55.g Z07;have o12:=o12.mono e55
    try dsimp only[aV]
    exact hN58 ((Z01.2.2+(Z0G.1+y38))%4) W54 _ hs64 ⟨rfl,E0,o12⟩ hq
   ·intro s65 W66 sg67 hS68 iv hq;obtain⟨rfl,E0,o72⟩:=iv;have hB28:=hB28.trans hS68;have Z00:=DD hS68 Z00;have Z0a:=DD hS68 Z0a;have Z07:=DD hS68 Z07;refine ak (Er:=Er) (oO (bH (lT aO) aO)<|bH aO aO)<|(DE hq).imp fun y75 hq v76 W73 e74 h77=>?_;cases h77;have E0:=E0.trans e74;have hB28:=hB28.trans e74.g;have Z00:=DD e74.g Z00;have Z0a:=DD e74.g Z0a;have Z07:=DD e74.g Z07;have o72:=o72.mono e74;refine cx (Er:=Er) (f:=wk) (s0:=y75) (Iv:=fun(s85:Bool)(W86:Wd)(g87:St)=>∃(d88:Option V)(d89:Option V),g87=[some Z08,some Z2c,some<|.int Z0b,some<|.int Z0e,some Z1W,some<|.ref p3,some<|.str<|sOf a7,some<|.int y38,some<|.int<|Z0G.1+y38,some<|.int y47,some<|.int s65,some<|.bl s85,d88,d89]/\Ext W0 W86/\Ow (qC K) W86 p3 s8) (gR (gv (bR (K:=K) (bE (aK (f:=fun(b:Cd)=>b.2.1) gP<|aF Z00) aO) (bE (aK (f:=fun(b:Cd)=>b.2.1) gP<|aF Z00) (ao (fun _=>by decide)<|aN aO ah)) (bE (aP (x:=DP "zos") (l:=[122,111,115]) (eP _ _ (by decide +kernel)))<|aN aO ah)))<|gv<|aF Z0a) (DE hq) ?_ ?_ ?_
    ·intro W102 e103;have E0:=E0.trans e103;have hB28:=hB28.trans e103.g;have Z00:=DD e103.g Z00;have Z0a:=DD e103.g Z0a;have Z07:=DD e103.g Z07;have o72:=o72.mono e103;exact⟨_,_,rfl,E0,o72⟩
    ·intro Wb91 W92 W93 a83 v94 s84 sg95 P96 hW97 hB98 iv e99 h100 hq;obtain⟨d88,d89,rfl,E0,o90⟩:=iv;have hB28:=hB28.trans hW97;have Z00:=DD hW97 Z00;have Z0a:=DD hW97 Z0a;have Z07:=DD hW97 Z07;have E0:=E0.trans e99;have hB28:=hB28.trans e99.g;have hB98:=hB98.trans e99.g;have Z00:=DD e99.g Z00;have Z0a:=DD e99.g Z0a;have Z07:=DD e99.g Z07;have o90:=o90.mono e99;refine i5 h100 fun v108 v110 h109 h111=>?_;cases h109;cases h111;unfold wk at hq;refine iR (Er:=Er) (Iv:=fun(s128:Bool)(W129:Wd)(g130:St)=>g130=[some Z08,some Z2c,some<|.int Z0b,some<|.int Z0e,some Z1W,some<|.ref p3,some<|.str<|sOf a7,some<|.int y38,some<|.int<|Z0G.1+y38,some<|.int y47,some<|.int s65,some<|.bl s128,some<|.str<|sOf a83.1,some<|.str<|sOf a83.2]/\Ext W0 W129/\Ow (qC K) W129 p3 s8) (fG (ar (gO cD (aP (x:=DP "?") (l:=[63]) (eP _ _ (by decide +kernel)))))<|ar<|gO cD cD) (DE hq) ?_ ?_ ?_
     ·intro W113 N116 e114 hN117 hq;have hs118:=e114.g;have E0:=E0.trans e114;have hB28:=hB28.trans e114.g;have hB98:=hB98.trans e114.g;have Z00:=DD e114.g Z00;have Z0a:=DD e114.g Z0a;have Z07:=DD e114.g Z07;have o90:=o90.mono e114;refine cC (Er:=Er) cA<|fun v121 W119 e120 h122=>?_;cases h122;have E0:=E0.trans e120;have hB28:=hB28.trans e120.g;have hB98:=hB98.trans e120.g;have hs118:=hs118.trans e120.g;have Z00:=DD e120.g Z00;have Z0a:=DD e120.g Z0a;have Z07:=DD e120.g Z07;have o90:=o90.mono e120;exact hN117 false W119 _ hs118 ⟨rfl,E0,o90⟩ hq
     ·intro W113 N116 e114 hN117 hq;have hs123:=e114.g;have E0:=E0.trans e114;have hB28:=hB28.trans e114.g;have hB98:=hB98.trans e114.g;have Z00:=DD e114.g Z00;have Z0a:=DD e114.g Z0a;have Z07:=DD e114.g Z07;have o90:=o90.mono e114
      try dsimp only[aV]
      exact hN117 s84 W113 _ hs123 ⟨rfl,E0,o90⟩ hq
     ·intro s124 W125 sg126 hS127 iv hq;obtain⟨rfl,E0,o131⟩:=iv;have hB28:=hB28.trans hS127;have hB98:=hB98.trans hS127;have Z00:=DD hS127 Z00;have Z0a:=DD hS127 Z0a;have Z07:=DD hS127 Z07
      try dsimp only
      refine bA (W:=W125) s124 hB98 ?_ hq;exact⟨_,_,rfl,E0,o131⟩
    ·intro s133 W134 sg135 hS136 iv hq;obtain⟨d88,d89,rfl,E0,o90⟩:=iv;have hB28:=hB28.trans hS136;have Z00:=DD hS136 Z00;have Z0a:=DD hS136 Z0a;have Z07:=DD hS136 Z07;refine iR (Er:=Er) (Iv:=fun(s152:(List Ii))(W153:Wd)(g154:St)=>g154=[some Z08,some Z2c,some<|.int Z0b,some<|.int Z0e,some Z1W,some<|.ref p3,some<|.str<|sOf a7,some<|.int y38,some<|.int<|Z0G.1+y38,some<|.int y47,some<|.int s65,some<|.bl s133,d88,d89]/\Ext W0 W153/\Ow (qC K) W153 p3 s152) (fj CB) (DE hq) ?_ ?_ ?_
     ·intro W137 N140 e138 hN141 hq;have hs142:=e138.g;have E0:=E0.trans e138;have hB28:=hB28.trans e138.g;have Z00:=DD e138.g Z00;have Z0a:=DD e138.g Z0a;have Z07:=DD e138.g Z07;have o90:=o90.mono e138;refine fH (Er:=Er) o90 (gr (K:=K) aO aO)<|(DE hq).imp fun y146 hq W143 mu144 o145=>?_;have E0:=mu144.e _ E0 fr6;have hB28:=hB28.trans mu144.g;have hs142:=hs142.trans mu144.g;have Z00:=DD mu144.g Z00;have Z0a:=DD mu144.g Z0a;have Z07:=DD mu144.g Z07;exact hN141 y146 W143 _ hs142 ⟨rfl,E0,o145⟩ hq
     ·intro W137 N140 e138 hN141 hq;have hs147:=e138.g;have E0:=E0.trans e138;have hB28:=hB28.trans e138.g;have Z00:=DD e138.g Z00;have Z0a:=DD e138.g Z0a;have Z07:=DD e138.g Z07;have o90:=o90.mono e138
      try dsimp only[aV]
      exact hN141 s8 W137 _ hs147 ⟨rfl,E0,o90⟩ hq
     ·intro s148 W149 sg150 hS151 iv hq;obtain⟨rfl,E0,o155⟩:=iv;have hB28:=hB28.trans hS151;have Z00:=DD hS151 Z00;have Z0a:=DD hS151 Z0a;have Z07:=DD hS151 Z07
      try dsimp only
      refine bA (W:=W149) s148 hB28 ?_ hq;exact⟨_,_,_,_,_,_,_,_,rfl,E0,o155⟩
  ·intro s156 W157 sg158 hS159 iv hq;obtain⟨d13,d14,d15,d16,d17,d18,d19,d20,rfl,E0,o12⟩:=iv;exact⟨.ref p3,rfl,hq p3 W157 E0 fr6 o12⟩
theorem DA{f:Addr}{fd:Ee}(F:Fun K "_law_shut" "_law_shut" (tp 52) f fd){om:Cd->Pl->Int->Int->Ii->Res (List Ii)}(Z2V:Cal P w K mg base "_law_next" ["_law_card_here","_law_mark","_law_loose","_law_bound","_law_state"] (3) (eK (qA K) (qB K) isI isI (qC K) (ro<|qC K) om))(h_all:mg "all"=none)(h_isinstance:mg "isinstance"=none)(h_len:mg "len"=none)(h_list:mg "list"=none)(h_tuple:mg "tuple"=none)(h_zip:mg "zip"=none):FnOk P w K mg base CX0 (4) f fd ["_law_card_here","_law_strip","_law_loose","_law_bound","_law_lists"] (eK (qA K) (qD K) isI isI (isL<|qE K) (rs isB)<|Ce om):=by
 have SC:FnScope ["_law_card_here","_law_strip","_law_loose","_law_bound","_law_lists","_law_states_here","_law_mark","_law_later","_law_there","_law_state","_law_after"] ["_law_card_here","_law_strip","_law_loose","_law_bound","_law_lists"] (defScope<|tp 52):=by walk_at "F"
 refine F.ok SC (fun vs H Q E h=>?_)<|fun cdv A outer s H vs Q E hr h=>?_;·obtain⟨_,_,_,_,_,_,_,_,_,_,_,_,rfl,_⟩:=h;rfl
 ·obtain⟨W0,Z01,Z0o,Z0b,Z0e,Z0D,Z08,Z0q,_,_,Z0s,rfl,rfl,Z00,Z06,Z1C,Z2j,Z0h,Er,hq⟩:=h;cases Z1C;cases Z2j
  refine⟨_,(ae (aT (Ik (eN (d9 (bS (aB (bb (K:=K) rfl) (by rfl) h_isinstance Ej (a5 (pv 4) (a5 (cE (v:=.ty "list") (by rfl) h_list FD rfl) af))))) (eN (aq jv (aB (aW (K:=K) rfl) (by rfl) h_len EK<|a5 (pv 4) af) aa<|ay _) (dW (aq jw (aB (aW (K:=K) rfl) (by rfl) h_len EK<|a5 (pv 4) af) (aj aX (aB (aW (K:=K) rfl) (by rfl) h_len EK<|a5 (pv 1) af) aa)<|ay _))))) (ag<|ax cz) aG)
   (ae (bC Ec rfl (bu (K:=K) rfl<|pv 4) (du 5) (ag (aT (Ik (eN (d9 (bS (aB (bb (K:=K) rfl) (by rfl) h_isinstance Ej (a5 (pv 5) (a5 (cE (v:=.ty "list") (by rfl) h_list FD rfl) af))))) (dW (d9 (bS (aB (l8 (K:=K) rfl rfl) (by rfl) h_all Kk (a5 (dG (N:=["_law_state"]) (cap:=[none]) (gZ rfl (by decide +kernel) rfl (by decide +kernel) (by rfl) (by rfl)) rfl (bu (K:=K) rfl<|pv 5) (fun _ _ _ _=>(bo (i:=0) (show Fg (["_law_state"]:List Str) by decide +kernel) rfl (by walk_at "L"))) (fun _ _ _ _=>cq) (fun _ _ _ _=>(aB (bb (K:=K) rfl) (by rfl) h_isinstance Ej (a5 (pv 0) (a5 (cE (v:=.ty "tuple") (by rfl) h_tuple Gh rfl) af))))) af))))))) (ag<|ax cz) aG)))
   (ae (aT (Ik (eN (aq (zM hr.units0) (aw (aU (K:=K) rfl) (pv 4) (gG f6 aa)<|fun _ _=>rfl) (bK af)<|ay _) (dW (aq (sE (K:=K) rfl<|dC hr) (bJ<|a5 aa<|a5 aa af) (aw (aU (K:=K) rfl) (pv 4) aa<|fun _ _=>rfl) (by with_unfolding_all rfl))))) (ag<|ax cz) aG)
   (ae (bC Ec rfl (pZ (K:=K) rfl rfl h_zip<|a5 (pv 1)<|a5 (ee (fV (K:=K) rfl) (pv 4) fB<|eO<|gG f6 aa)<|a5 (ee (fV (K:=K) rfl) (pv 4) (eO aa) fB) af) (bt (K:=K) (n:=3) rfl rfl<|au (du 6)<|au (du 5)<|au (du 7) br) (ae (bW 8 vf)
   (ae (bC Ec rfl (bu (K:=K) rfl<|pv 7) (du 9)<|ag<|vg (dC hr) (pv 8) (pv 9) cz rfl)
   (ag (bC Ec rfl (bu (K:=K) rfl (pv 5)) (du 9) (ag (bC Ec rfl (bu (K:=K) rfl (cv Z2V (a5 (pv 0) (a5 (pv 6) (a5 (pv 2) (a5 (pv 3) (a5 (pv 9) af))))))) (du 10) (ag (aT (aq (sF (P:=P) (w:=w) (K:=K) rfl rfl rfl (dC hr)) (pv 10) (pv 8) (by with_unfolding_all rfl)) (ag (ax cz)) aG)))))))))
   (ag (ax cz)))))),?_⟩
  have E0:Ext W0 W0:=.refl W0;rw[show L2.start ["_law_card_here","_law_strip","_law_loose","_law_bound","_law_lists","_law_states_here","_law_mark","_law_later","_law_there","_law_state","_law_after"] [Z08,Z0q,.int Z0b,.int Z0e,Z0s]=[some Z08,some Z0q,some<|.int Z0b,some<|.int Z0e,some Z0s,none,none,none,none,none,none]from rfl];unfold Ce at hq;refine bp (Er:=Er) (eS (dg (fj (cf (j:=3) (by decide)<|dD (K:=K) (u:=fun(z:List (List Ii))=>HM<|z.map fun(z:List Ii)=>HM<|z.map fun(z:Ii)=>Hs [Fh z.1,Fh z.2]) (j4 (u:=fun(z:List Ii)=>HM<|z.map fun(z:Ii)=>Hs [Fh z.1,Fh z.2])<|j4 (u:=fun(z:Ii)=>Hs [Fh z.1,Fh z.2])<|jT cT cT)<|aF Z0h)))<|eS (ar<|bH (cu<|FW<|aF Z0h) ah)<|ar<|bH (cu<|FW<|aF Z0h)<|aN (cu<|FW<|aF Z06) ah)<|(DE hq).imp fun y1 hq W2 e3=>?_;have E0:=E0.trans e3;have Z00:=DD e3.g Z00;have Z06:=DD e3.g Z06;have Z0h:=DD e3.g Z0h;by_cases hb200:y1=true
  ·rw[if_pos hb200]at hq ⊢;exact aE (Er:=Er) cA<|fun v4 W5 e6 h7=>hq v4 W5 (E0.trans e6) h7
  ·rw[if_neg hb200]at hq ⊢
   try dsimp only[aV]
   refine dQ (Er:=Er) (f:=Bk) (s0:=()) (Iv:=fun(s10:Unit)(W11:Wd)(g12:St)=>∃(d13:Option V),g12=[some Z08,some Z0q,some<|.int Z0b,some<|.int Z0e,some Z0s,d13,none,none,none,none,none]/\Ext W0 W11) (bN<|aF Z0h) (DE hq) ?_ ?_ ?_
   ·intro W25 e26;have E0:=E0.trans e26;have Z00:=DD e26.g Z00;have Z06:=DD e26.g Z06;have Z0h:=DD e26.g Z0h;exact⟨_,rfl,E0⟩
   ·intro Wb14 W15 W16 a8 v17 s9 sg18 P19 hW20 hB21 iv e22 h23 hrt24 hq;obtain⟨d13,rfl,E0⟩:=iv;have Z00:=DD hW20 Z00;have Z06:=DD hW20 Z06;have Z0h:=DD hW20 Z0h;have E0:=E0.trans e22;have hB21:=hB21.trans e22.g;have Z00:=DD e22.g Z00;have Z06:=DD e22.g Z06;have Z0h:=DD e22.g Z0h;refine gn (σ':=[some Z08,some Z0q,some<|.int Z0b,some<|.int Z0e,some Z0s,some v17,none,none,none,none,none]) ?_;unfold Bk at hq;refine ng (Er:=Er) (eS (dg (fj (cf (j:=3) (by decide)<|dD (K:=K) (u:=fun(z:List Ii)=>HM<|z.map fun(z:Ii)=>Hs [Fh z.1,Fh z.2]) (j4 (u:=fun(z:Ii)=>Hs [Fh z.1,Fh z.2])<|jT cT cT)<|aF h23))) (dg (fj (uj (Ir (dH (bN<|aF h23) fun W31 a29 v30 e32 h33 Q36 k37=>by
     refine gn ?_;exact⟨by simp[Keep,bh],((cf (j:=4) (by decide) (dD (K:=K) (jT cT cT) (aF h33))):EV Er _ [some v30] _ _ _) _ (.refl _) _ k37⟩)))))) ((DE hq).imp fun y40 hq W41 e42=>?_)
    have E0:=E0.trans e42;have hB21:=hB21.trans e42.g;have Z00:=DD e42.g Z00;have Z06:=DD e42.g Z06;have Z0h:=DD e42.g Z0h;have h23:=DD e42.g h23;by_cases hb46:y40=true
    ·rw[if_pos hb46]at hq ⊢;exact aE (Er:=Er) cA<|fun v43 W44 e45 h46=>(hrt24 _ hq) v43 W44 (E0.trans e45) h46
    ·rw[if_neg hb46]at hq ⊢
     try dsimp only[aV]
     try dsimp only
     refine bA (W:=W41) () hB21 ?_ hq;exact⟨_,rfl,E0⟩
   ·intro s47 W48 sg49 hS50 iv hq;obtain⟨d13,rfl,E0⟩:=iv;have Z00:=DD hS50 Z00;have Z06:=DD hS50 Z06;have Z0h:=DD hS50 Z0h;refine bp (Er:=Er) (eS (ar<|zP<|FW<|bL (FW<|aF Z0h)<|fE ah)<|ar<|ph (gr (K:=K) ah ah)<|FW<|bL (FW<|aF Z0h) ah)<|(DE hq).imp fun y54 hq W55 e56=>?_;have E0:=E0.trans e56;have Z00:=DD e56.g Z00;have Z06:=DD e56.g Z06;have Z0h:=DD e56.g Z0h;by_cases hb200:y54=true
    ·rw[if_pos hb200]at hq ⊢;exact aE (Er:=Er) cA<|fun v57 W58 e59 h60=>hq v57 W58 (E0.trans e59) h60
    ·rw[if_neg hb200]at hq ⊢
     try dsimp only[aV]
     refine dQ (Er:=Er) (f:=(Bm om Z01 Z0b Z0e)) (s0:=()) (Iv:=fun(s63:Unit)(W64:Wd)(g65:St)=>∃(d66:Option V)(d67:Option V)(d68:Option V)(d69:Option V)(d70:Option V)(d71:Option V),g65=[some Z08,some Z0q,some<|.int Z0b,some<|.int Z0e,some Z0s,d70,d69,d71,d66,d67,d68]/\Ext W0 W64) (qg (dh<|aF Z06) (dh<|FR<|hZ (FW<|aF Z0h) jK<|jL<|fE ah)<|dh<|FR<|hZ (FW<|aF Z0h) (jL ah) jK) (DE hq) ?_ ?_ ?_
     ·intro W83 e84;have E0:=E0.trans e84;have Z00:=DD e84.g Z00;exact⟨_,_,_,_,_,_,rfl,E0⟩
     ·intro Wb72 W73 W74 a61 v75 s62 sg76 P77 hW78 hB79 iv e80 h81 hrt82 hq;obtain⟨d66,d67,d68,d69,d70,d71,rfl,E0⟩:=iv;have Z00:=DD hW78 Z00;have E0:=E0.trans e80;have hB79:=hB79.trans e80.g;have Z00:=DD e80.g Z00;refine oQ h81 fun v91 v93 v95 h92 h94 h96=>?_;unfold Bm at hq;refine sv (Er:=Er) (vh (prog:=P) (w:=w) (K:=K) (R:=isB))<|fun p99 W97 e98 hp100 o101=>?_;have fr102:=aR E0.h hp100;have E0:=E0.trans e98;have hB79:=hB79.trans e98.g;have Z00:=DD e98.g Z00;have h92:=DD e98.g h92;have h94:=DD e98.g h94;have h96:=DD e98.g h96;refine cx (Er:=Er) (f:=Bl) (s0:=([]:List (Ii×Bool))) (Iv:=fun(s105:(List<|Ii×Bool))(W106:Wd)(g107:St)=>∃(d109:Option V),g107=[some Z08,some Z0q,some<|.int Z0b,some<|.int Z0e,some Z0s,some v93,some v91,some v95,some<|.ref p99,d109,d68]/\Ext W0 W106/\OwP P w K isB W106 p99 s105) (bN<|aF h96) (DE hq) ?_ ?_ ?_
      ·intro W121 e122;have E0:=E0.trans e122;have hB79:=hB79.trans e122.g;have Z00:=DD e122.g Z00;have h92:=DD e122.g h92;have h94:=DD e122.g h94;have h96:=DD e122.g h96;have o101:=o101.mono e122;exact⟨_,rfl,E0,o101⟩
      ·intro Wb110 W111 W112 a103 v113 s104 sg114 P115 hW116 hB117 iv e118 h119 hq;obtain⟨d109,rfl,E0,o108⟩:=iv;have hB79:=hB79.trans hW116;have Z00:=DD hW116 Z00;have h92:=DD hW116 h92;have h94:=DD hW116 h94;have h96:=DD hW116 h96;have E0:=E0.trans e118;have hB79:=hB79.trans e118.g;have hB117:=hB117.trans e118.g;have Z00:=DD e118.g Z00;have h92:=DD e118.g h92;have h94:=DD e118.g h94;have h96:=DD e118.g h96;have o108:=o108.mono e118;refine gn (σ':=[some Z08,some Z0q,some<|.int Z0b,some<|.int Z0e,some Z0s,some v93,some v91,some v95,some<|.ref p99,some v113,d68]) ?_;unfold Bl at hq;refine vi (Er:=Er) o108 cA (aF h119)<|(DE hq).imp fun y128 hq W125 mu126 o127=>?_;have E0:=mu126.e _ E0 fr102;have hB79:=hB79.trans mu126.g;have hB117:=hB117.trans mu126.g;have Z00:=DD mu126.g Z00;have h92:=DD mu126.g h92;have h94:=DD mu126.g h94;have h96:=DD mu126.g h96;have h119:=DD mu126.g h119
       try dsimp only
       refine bA (W:=W125) y128 hB117 ?_ hq;exact⟨_,rfl,E0,o127⟩
      ·intro s129 W130 sg131 hS132 iv hq;obtain⟨d109,rfl,E0,o108⟩:=iv;have hB79:=hB79.trans hS132;have Z00:=DD hS132 Z00;have h92:=DD hS132 h92;have h94:=DD hS132 h94;have h96:=DD hS132 h96;refine gw (Er:=Er) (f:=(Cc om Z01 Z0b Z0e a61 s129)) (s0:=()) (Iv:=fun(s135:Unit)(W136:Wd)(g137:St)=>∃(d138:Option V)(d139:Option V),g137=[some Z08,some Z0q,some<|.int Z0b,some<|.int Z0e,some Z0s,some v93,some v91,some v95,some<|.ref p99,d139,d138]/\Ext W0 W136/\OwP P w K isB W136 p99 s129) (bN<|aF h94) (DE hq) ?_ ?_ ?_
       ·intro W152 e153;have E0:=E0.trans e153;have hB79:=hB79.trans e153.g;have Z00:=DD e153.g Z00;have h92:=DD e153.g h92;have h94:=DD e153.g h94;have h96:=DD e153.g h96;have o108:=o108.mono e153;exact⟨_,_,rfl,E0,o108⟩
       ·intro Wb141 W142 W143 a133 v144 s134 sg145 P146 hW147 hB148 iv e149 h150 hrt151 hq;obtain⟨d138,d139,rfl,E0,o140⟩:=iv;have hB79:=hB79.trans hW147;have Z00:=DD hW147 Z00;have h92:=DD hW147 h92;have h94:=DD hW147 h94;have h96:=DD hW147 h96;have E0:=E0.trans e149;have hB79:=hB79.trans e149.g;have hB148:=hB148.trans e149.g;have Z00:=DD e149.g Z00;have h92:=DD e149.g h92;have h94:=DD e149.g h94;have h96:=DD e149.g h96;have o140:=o140.mono e149;refine gn (σ':=[some Z08,some Z0q,some<|.int Z0b,some<|.int Z0e,some Z0s,some v93,some v91,some v95,some<|.ref p99,some v144,d138]) ?_;unfold Cc at hq;refine gw (Er:=Er) (f:=(Cb s129)) (s0:=()) (Iv:=fun(s158:Unit)(W159:Wd)(g160:St)=>∃(d161:Option V),g160=[some Z08,some Z0q,some<|.int Z0b,some<|.int Z0e,some Z0s,some v93,some v91,some v95,some<|.ref p99,some v144,d161]/\Ext W0 W159/\OwP P w K isB W159 p99 s129) (bN<|FR<|fk (aF Z00) (aF h92) aO aO<|aF h150) (DE hq) ?_ ?_ ?_
        ·intro W174 e175;have E0:=E0.trans e175;have hB79:=hB79.trans e175.g;have hB148:=hB148.trans e175.g;have Z00:=DD e175.g Z00;have h92:=DD e175.g h92;have h94:=DD e175.g h94;have h96:=DD e175.g h96;have o140:=o140.mono e175;have h150:=DD e175.g h150;exact⟨_,rfl,E0,o140⟩
        ·intro Wb163 W164 W165 a156 v166 s157 sg167 P168 hW169 hB170 iv e171 h172 hrt173 hq;obtain⟨d161,rfl,E0,o162⟩:=iv;have hB79:=hB79.trans hW169;have hB148:=hB148.trans hW169;have Z00:=DD hW169 Z00;have h92:=DD hW169 h92;have h94:=DD hW169 h94;have h96:=DD hW169 h96;have h150:=DD hW169 h150;have E0:=E0.trans e171;have hB79:=hB79.trans e171.g;have hB148:=hB148.trans e171.g;have hB170:=hB170.trans e171.g;have Z00:=DD e171.g Z00;have h92:=DD e171.g h92;have h94:=DD e171.g h94;have h96:=DD e171.g h96;have o162:=o162.mono e171;have h150:=DD e171.g h150;refine gn (σ':=[some Z08,some Z0q,some<|.int Z0b,some<|.int Z0e,some Z0s,some v93,some v91,some v95,some<|.ref p99,some v144,some v166]) ?_;unfold Cb at hq;refine ng (Er:=Er) (ar<|sH o162<|aF h172)<|fun W178 e179=>?_;have E0:=E0.trans e179;have hB79:=hB79.trans e179.g;have hB148:=hB148.trans e179.g;have hB170:=hB170.trans e179.g;have Z00:=DD e179.g Z00;have h92:=DD e179.g h92;have h94:=DD e179.g h94;have h96:=DD e179.g h96;have o162:=o162.mono e179;have h150:=DD e179.g h150;have h172:=DD e179.g h172;by_cases hb183:(!(look s129 a156).isSome)=true
         ·rw[if_pos hb183]at hq ⊢;exact aE (Er:=Er) cA<|fun v180 W181 e182 h183=>(hrt82 _<|hrt151 _<|hrt173 _ hq) v180 W181 (E0.trans e182) h183
         ·rw[if_neg hb183]at hq ⊢
          try dsimp only[aV]
          try dsimp only
          refine bA (W:=W178) () hB170 ?_ hq;exact⟨_,rfl,E0,o162⟩
        ·intro s185 W186 sg187 hS188 iv hq;obtain⟨d161,rfl,E0,o162⟩:=iv;have hB79:=hB79.trans hS188;have hB148:=hB148.trans hS188;have Z00:=DD hS188 Z00;have h92:=DD hS188 h92;have h94:=DD hS188 h94;have h96:=DD hS188 h96;have h150:=DD hS188 h150
         try dsimp only
         refine bA (W:=W186) () hB148 ?_ hq;exact⟨_,_,rfl,E0,o162⟩
       ·intro s189 W190 sg191 hS192 iv hq;obtain⟨d138,d139,rfl,E0,o140⟩:=iv;have hB79:=hB79.trans hS192;have Z00:=DD hS192 Z00;have h92:=DD hS192 h92;have h94:=DD hS192 h94;have h96:=DD hS192 h96
        try dsimp only
        refine bA (W:=W190) () hB79 ?_ hq;exact⟨_,_,_,_,_,_,rfl,E0⟩
     ·intro s193 W194 sg195 hS196 iv hq;obtain⟨d66,d67,d68,d69,d70,d71,rfl,E0⟩:=iv;exact aE (Er:=Er) cA<|fun v197 W198 e199 h200=>hq v197 W198 (E0.trans e199) h200
theorem DB{f:Addr}{fd:Ee}(F:Fun K "_law_does" "_law_does" (tp 53) f fd){pj:Cd->Tx->Res (List Pl)}{fL:Cd->Tx->Res Int}(Z11:Cal P w K mg base "_law_places" ["_law_card_here","_law_turns_here"] (3) (bz (qA K) isS (ro<|qB K) pj))(Z0K:Cal P w K mg base "_law_twist" ["_law_card_here","_law_turn"] (2) (bz (qA K) isS (rs isI) fL))(h_abs:mg "abs"=none)(h_int:mg "int"=none)(h_len:mg "len"=none)(h_zip:mg "zip"=none):FnOk P w K mg base CX0 (4) f fd ["_law_card_here","_law_strip","_law_loose","_law_bound","_law_text"] (eK (qA K) (qD K) isI isI isS (rs isB)<|Cg pj fL):=by
 have SC:FnScope ["_law_card_here","_law_strip","_law_loose","_law_bound","_law_text","_law_turn","_law_now","_law_idle","_law_place","_law_mark","_law_sign","_law_left"] ["_law_card_here","_law_strip","_law_loose","_law_bound","_law_text"] (defScope<|tp 53):=by walk_at "F"
 refine F.ok SC (fun vs H Q E h=>?_)<|fun cdv A outer s H vs Q E hr h=>?_;·obtain⟨_,_,_,_,_,_,_,_,_,_,_,_,rfl,_⟩:=h;rfl
 ·obtain⟨W0,Z01,Z0o,Z0b,Z0e,Z1A,Z08,Z0q,_,_,_,rfl,rfl,Z00,Z06,Z1C,Z2j,Z4R,Er,hq⟩:=h;cases Z1C;cases Z2j;cases Z4R
  refine⟨_,(ae (aT (aq fQ (aB (aW (K:=K) rfl) (by rfl) h_len EK<|a5 (pv 4) af) (aB (aW (K:=K) rfl) (by rfl) h_len EK<|a5 (pv 1) af)<|ay _) (ag<|ax cz) aG)
   (ae (bC Ec rfl (iL<|pv 4) (du 5)<|ag<|aT (Ik<|fz (aq fQ (pv 5) aM<|ay _)<|fz (aq fQ (pv 5) aM<|ay _)<|eM<|aq fQ (pv 5) aM<|ay _) (ag<|ax cz) aG)
   (ae (bW 6 aa)
   (ae (bW 7 aa)
   (ae (bC Ec rfl (pZ (K:=K) rfl rfl h_zip<|a5 (pv 4)<|a5 (cv Z11<|a5 (pv 0)<|a5 (pv 4) af)<|a5 (pv 1) af) (bt (K:=K) (n:=3) rfl rfl<|au (du 5)<|au (du 8)<|au (du 9) br) (ae (bW 6<|aj aX (pv 6)<|cv Z0K<|a5 (pv 0)<|a5 (pv 5) af)
   (ae (bW 7 (aj dZ (aj aX (pv 7) aa) (cJ iJ (by rfl) h_int Gz<|a5 (cF cb (pv 5) aM<|ay _) af)))
   (ae (aT (Ik (eN (aq jw (aB gY (by rfl) h_abs Hl<|a5 (pv 6) af) (pv 3)<|ay _)<|dW<|aq jw (pv 7) (pv 2)<|ay _)) (ag<|ax cz) aG)
   (ag (bC Ec rfl (fD (K:=K) rfl rfl h_zip (a5 (pv 8) (a5 (pv 9) af))) (bt (K:=K) (n:=2) rfl rfl (au (du 10) (au (du 11) br))) (ag (aT (Ik (fz (aq fQ (pv 11) aM (ay _)) (eM (aq fQ (pv 11) (pv 10) (ay _))))) (ag (ax cz)) aG))))))))
   (ag (ax cz))))))),?_⟩
  have E0:Ext W0 W0:=.refl W0;unfold Cg at hq;refine bp (Er:=Er) (ar<|lS (wN cD)<|cu<|FW<|aF Z06)<|(DE hq).imp fun y2 hq W3 e4=>?_;have E0:=E0.trans e4;have Z00:=DD e4.g Z00;have Z06:=DD e4.g Z06;by_cases hb150:y2=true
  ·rw[if_pos hb150]at hq ⊢;exact aE (Er:=Er) cA<|fun v5 W6 e7 h8=>hq v5 W6 (E0.trans e7) h8
  ·rw[if_neg hb150]at hq ⊢
   try dsimp only[aV]
   refine dQ (Er:=Er) (f:=Cf) (s0:=()) (Iv:=fun(s11:Unit)(W12:Wd)(g13:St)=>∃(d14:Option V),g13=[some Z08,some Z0q,some<|.int Z0b,some<|.int Z0e,some<|.str<|sOf Z1A,d14,none,none,none,none,none,none]/\Ext W0 W12) (iQ cD) (DE hq) ?_ ?_ ?_
   ·intro W26 e27;have E0:=E0.trans e27;have Z00:=DD e27.g Z00;have Z06:=DD e27.g Z06;exact⟨_,rfl,E0⟩
   ·intro Wb15 W16 W17 a9 v18 s10 sg19 P20 hW21 hB22 iv e23 h24 hrt25 hq;obtain⟨d14,rfl,E0⟩:=iv;have Z00:=DD hW21 Z00;have Z06:=DD hW21 Z06;have E0:=E0.trans e23;have hB22:=hB22.trans e23.g;have Z00:=DD e23.g Z00;have Z06:=DD e23.g Z06;cases h24;refine gn (σ':=[some Z08,some Z0q,some<|.int Z0b,some<|.int Z0e,some<|.str<|sOf Z1A,some<|.str<|sOf a9,none,none,none,none,none,none]) ?_;unfold Cf at hq;refine ng (Er:=Er) (fG (ar (gO cD (aP (x:=DP "f") (l:=[102]) (eP _ _ (by decide +kernel))))) (fG (ar (gO cD (aP (x:=DP "b") (l:=[98]) (eP _ _ (by decide +kernel))))) (ar (gO cD (aP (x:=DP "i") (l:=[105]) (eP _ _ (by decide +kernel)))))))<|(DE hq).imp fun y30 hq W31 e32=>?_;have E0:=E0.trans e32;have hB22:=hB22.trans e32.g;have Z00:=DD e32.g Z00;have Z06:=DD e32.g Z06;by_cases hb36:y30=true
    ·rw[if_pos hb36]at hq ⊢;exact aE (Er:=Er) cA<|fun v33 W34 e35 h36=>(hrt25 _ hq) v33 W34 (E0.trans e35) h36
    ·rw[if_neg hb36]at hq ⊢
     try dsimp only[aV]
     try dsimp only
     refine bA (W:=W31) () hB22 ?_ hq;exact⟨_,rfl,E0⟩
   ·intro s37 W38 sg39 hS40 iv hq;obtain⟨d14,rfl,E0⟩:=iv;have Z00:=DD hS40 Z00;have Z06:=DD hS40 Z06;refine ak (Er:=Er) ah<|fun v43 W41 e42 h44=>?_;cases h44;have E0:=E0.trans e42;have Z00:=DD e42.g Z00;have Z06:=DD e42.g Z06;refine ak (Er:=Er) ah<|fun v47 W45 e46 h48=>?_;cases h48;have E0:=E0.trans e46;have Z00:=DD e46.g Z00;have Z06:=DD e46.g Z06;refine dQ (Er:=Er) (f:=(Ah fL Z01 Z0b Z0e)) (s0:=((0:Int),(0:Int))) (Iv:=fun(s52:Ii)(W53:Wd)(g54:St)=>∃(d55:Option V)(d56:Option V)(d57:Option V)(d58:Option V)(d59:Option V),g54=[some Z08,some Z0q,some<|.int Z0b,some<|.int Z0e,some<|.str<|sOf Z1A,d57,some<|.int s52.1,some<|.int s52.2,d58,d59,d55,d56]/\Ext W0 W53) (qg (zw cD) (dh<|FR<|gu (aF Z00) cD)<|dh<|aF Z06) (DE hq) ?_ ?_ ?_
    ·intro W71 e72;have E0:=E0.trans e72;have Z00:=DD e72.g Z00;exact⟨_,_,_,_,_,rfl,E0⟩
    ·intro Wb60 W61 W62 a50 v63 s51 sg64 P65 hW66 hB67 iv e68 h69 hrt70 hq;obtain⟨d55,d56,d57,d58,d59,rfl,E0⟩:=iv;have Z00:=DD hW66 Z00;have E0:=E0.trans e68;have hB67:=hB67.trans e68.g;have Z00:=DD e68.g Z00;refine oQ h69 fun v79 v81 v83 h80 h82 h84=>?_;cases h80;unfold Ah at hq;refine ak (Er:=Er) (aN aO<|aQ (aF Z00) cD)<|(DE hq).imp fun y88 hq v89 W85 e86 h90=>?_;cases h90;have E0:=E0.trans e86;have hB67:=hB67.trans e86.g;have Z00:=DD e86.g Z00;have h82:=DD e86.g h82;have h84:=DD e86.g h84;refine ak (Er:=Er) (iO (aN aO ah) (lV (fF cD (aP (x:=DP "i") (l:=[105]) (eP _ _ (by decide +kernel))))))<|(DE hq).imp fun y93 hq v94 W91 e92 h95=>?_;cases h95;have E0:=E0.trans e92;have hB67:=hB67.trans e92.g;have Z00:=DD e92.g Z00;have h82:=DD e92.g h82;have h84:=DD e92.g h84;refine bp (Er:=Er) (eS (ar<|bH (lT aO) aO)<|ar<|bH aO aO)<|(DE hq).imp fun y96 hq W97 e98=>?_;have E0:=E0.trans e98;have hB67:=hB67.trans e98.g;have Z00:=DD e98.g Z00;have h82:=DD e98.g h82;have h84:=DD e98.g h84;by_cases hb141:y96=true
     ·rw[if_pos hb141]at hq ⊢;exact aE (Er:=Er) cA<|fun v99 W100 e101 h102=>(hrt70 _ hq) v99 W100 (E0.trans e101) h102
     ·rw[if_neg hb141]at hq ⊢
      try dsimp only[aV]
      refine gw (Er:=Er) (f:=Bn) (s0:=()) (Iv:=fun(s105:Unit)(W106:Wd)(g107:St)=>∃(d108:Option V)(d109:Option V),g107=[some Z08,some Z0q,some<|.int Z0b,some<|.int Z0e,some<|.str<|sOf Z1A,some<|.str<|sOf a50.1,some<|.int y88,some<|.int y93,some v81,some v83,d108,d109]/\Ext W0 W106) (gR (gv<|aF h82)<|gv<|aF h84) (DE hq) ?_ ?_ ?_
      ·intro W121 e122;have E0:=E0.trans e122;have hB67:=hB67.trans e122.g;have Z00:=DD e122.g Z00;have h82:=DD e122.g h82;have h84:=DD e122.g h84;exact⟨_,_,rfl,E0⟩
      ·intro Wb110 W111 W112 a103 v113 s104 sg114 P115 hW116 hB117 iv e118 h119 hrt120 hq;obtain⟨d108,d109,rfl,E0⟩:=iv;have hB67:=hB67.trans hW116;have Z00:=DD hW116 Z00;have h82:=DD hW116 h82;have h84:=DD hW116 h84;have E0:=E0.trans e118;have hB67:=hB67.trans e118.g;have hB117:=hB117.trans e118.g;have Z00:=DD e118.g Z00;have h82:=DD e118.g h82;have h84:=DD e118.g h84;refine i5 h119 fun v127 v129 h128 h130=>?_;cases h128;cases h130;unfold Bn at hq;refine ng (Er:=Er) (fG (ar (gO cD (aP (x:=DP "?") (l:=[63]) (eP _ _ (by decide +kernel)))))<|ar<|gO cD cD)<|(DE hq).imp fun y131 hq W132 e133=>?_;have E0:=E0.trans e133;have hB67:=hB67.trans e133.g;have hB117:=hB117.trans e133.g;have Z00:=DD e133.g Z00;have h82:=DD e133.g h82;have h84:=DD e133.g h84;by_cases hb137:y131=true
       ·rw[if_pos hb137]at hq ⊢;exact aE (Er:=Er) cA<|fun v134 W135 e136 h137=>(hrt70 _<|hrt120 _ hq) v134 W135 (E0.trans e136) h137
       ·rw[if_neg hb137]at hq ⊢
        try dsimp only[aV]
        try dsimp only
        refine bA (W:=W132) () hB117 ?_ hq;exact⟨_,_,rfl,E0⟩
      ·intro s138 W139 sg140 hS141 iv hq;obtain⟨d108,d109,rfl,E0⟩:=iv;have hB67:=hB67.trans hS141;have Z00:=DD hS141 Z00;have h82:=DD hS141 h82;have h84:=DD hS141 h84
       try dsimp only
       refine bA (W:=W139) (y88,y93) hB67 ?_ hq;exact⟨_,_,_,_,_,rfl,E0⟩
    ·intro s143 W144 sg145 hS146 iv hq;obtain⟨d55,d56,d57,d58,d59,rfl,E0⟩:=iv;exact aE (Er:=Er) cA<|fun v147 W148 e149 h150=>hq v147 W148 (E0.trans e149) h150
theorem DC{f:Addr}{fd:Ee}(F:Fun K "_law_triple" "_law_triple" (tp 54) f fd){xJ:(List<|List Ii)->Res Bool}{wm:Cd->(List Pl)->Int->Int->(List<|List Ii)->Res Bool}{xK:Cd->(List Pl)->Int->Int->Tx->Res Bool}(Z2k:Cal P w K mg base "_law_states" ["_law_lists"] (1) (cY (isL<|qE K) (rs isB) xJ))(Z2i:Cal P w K mg base "_law_shut" ["_law_card_here","_law_strip","_law_loose","_law_bound","_law_lists"] (4) (eK (qA K) (qD K) isI isI (isL<|qE K) (rs isB) wm))(Z2W:Cal P w K mg base "_law_does" ["_law_card_here","_law_strip","_law_loose","_law_bound","_law_text"] (4) (eK (qA K) (qD K) isI isI isS (rs isB) xK))(h_bool:mg "bool"=none)(h_int:mg "int"=none)(h_isinstance:mg "isinstance"=none)(h_len:mg "len"=none)(h_str:mg "str"=none)(h_tuple:mg "tuple"=none):FnOk P w K mg base CX0 (5) f fd ["_law_card_here","_law_strip","_law_loose","_law_found"] (gE (qA K) (qD K) isI (isT3 K (isO isI) (isO isS)<|isL<|qE K) (rs isB)<|Ci xJ wm xK):=by
 have SC:FnScope ["_law_card_here","_law_strip","_law_loose","_law_found"] ["_law_card_here","_law_strip","_law_loose","_law_found"] (defScope<|tp 54):=by walk_at "F"
 refine F.ok SC (fun vs H Q E h=>?_)<|fun cdv A outer s H vs Q E hr h=>?_;·obtain⟨_,_,_,_,_,_,_,_,_,_,rfl,_⟩:=h;rfl
 ·obtain⟨W0,Z01,Z0o,Z0b,Z0A,Z08,Z0q,_,Z57,rfl,rfl,Z00,Z06,Z1C,Z0k,Er,hq⟩:=h;cases Z1C
  refine⟨_,(ae (aT (Ik (eN (d9 (bS (aB (bb (K:=K) rfl) (by rfl) h_isinstance Ej (a5 (pv 3) (a5 (cE (v:=.ty "tuple") (by rfl) h_tuple Gh rfl) af))))) (eN (aq fQ (aB (aW (K:=K) rfl) (by rfl) h_len EK<|a5 (pv 3) af) aa<|ay _)<|dW<|d9<|bS<|cv Z2k<|a5 (aw (aA (K:=K) rfl) (pv 3) aa<|fun _ _=>rfl) af))) (ag<|ax cz) aG)
   (ae (aT (aq oA (aw (aA (K:=K) rfl) (pv 3) aa<|fun _ _=>rfl) iE<|ay _) (ag (ax (oo (cF oA (aw (aA (K:=K) rfl) (pv 3) aa<|fun _ _=>rfl) iE<|ay _) (lE (cv Z2i (a5 (pv 0) (a5 (pv 1) (a5 (pv 2) (a5 (aB (aW (K:=K) rfl) (by rfl) h_len EK<|a5 (pv 1) af)<|a5 (aw (aA (K:=K) rfl) (pv 3) aa<|fun _ _=>rfl) af))))))))) aG)
   (ae (aT (Ik (eN (d9 (bS (aB (bb (K:=K) rfl) (by rfl) h_isinstance Ej (a5 (aw (aA (K:=K) rfl) (pv 3) aa<|fun _ _=>rfl) (a5 (cE (v:=.ty "int") (by rfl) h_int Gz rfl) af))))) (eN (bS (aB (bb (K:=K) rfl) (by rfl) h_isinstance Ej (a5 (aw (aA (K:=K) rfl) (pv 3) aa<|fun _ _=>rfl) (a5 (cE (v:=.ty "bool") (by rfl) h_bool K2 rfl) af))))<|dW<|aq jv (aw (aA (K:=K) rfl) (pv 3) aa<|fun _ _=>rfl) aa<|ay _))) (ag<|ax cz) aG)
   (ae (aT (Ik (eN (d9 (bS (aB (bb (K:=K) rfl) (by rfl) h_isinstance Ej (a5 (aw (aA (K:=K) rfl) (pv 3) aa<|fun _ _=>rfl) (a5 (cE (v:=.ty "str") (by rfl) h_str N5 rfl) af)))))<|dW<|d9<|bS<|cv Z2W<|a5 (pv 0)<|a5 (pv 1)<|a5 (pv 2)<|a5 (aw (aA (K:=K) rfl) (pv 3) aa<|fun _ _=>rfl)<|a5 (aw (aA (K:=K) rfl) (pv 3) aa<|fun _ _=>rfl) af)) (ag<|ax cz) aG)
   (ae (aT (aq cb (aw (aA (K:=K) rfl) (pv 3) aa<|fun _ _=>rfl) aa<|ay _) (ag<|ax<|cF (kB hr.units0) (aw (aA (K:=K) rfl) (pv 3) aa<|fun _ _=>rfl) (bK af)<|ay _) aG)
   (ag (ax (cv Z2i (a5 (pv 0) (a5 (pv 1) (a5 (pv 2) (a5 (aj fA (aw (aA (K:=K) rfl) (pv 3) aa (fun _ _=>rfl)) aa) (a5 (aw (aA (K:=K) rfl) (pv 3) aa (fun _ _=>rfl)) af))))))))))))),?_⟩
  have E0:Ext W0 W0:=.refl W0;unfold Ci at hq;refine bp (Er:=Er) (eS (dg (fj (cf (j:=4) (by decide)<|dD (K:=K) (u:=fun(z:(Option Int)×(Option Tx)×(List<|List Ii))=>Hs [i8 (fun(z:Int)=>Fh z) z.1,i8 (fun(z:Tx)=>NM z) z.2.1,HM<|z.2.2.map fun(z:List Ii)=>HM<|z.map fun(z:Ii)=>Hs [Fh z.1,Fh z.2]]) (AQ (nz cT) (nz yv)<|j4 (u:=fun(z:List Ii)=>HM<|z.map fun(z:Ii)=>Hs [Fh z.1,Fh z.2])<|j4 (u:=fun(z:Ii)=>Hs [Fh z.1,Fh z.2])<|jT cT cT)<|aF Z0k)))<|eS (ar<|lS (uz<|aF Z0k) ah)<|dg<|fj<|cw<|aK (f:=fun(b:(Option Int)×(Option Tx)×(List<|List Ii))=>b.2.2) gQ<|aF Z0k)<|(DE hq).imp fun y2 hq W3 e4=>?_;have E0:=E0.trans e4;have Z00:=DD e4.g Z00;have Z06:=DD e4.g Z06;have Z0k:=DD e4.g Z0k;by_cases hb48:y2=true
  ·rw[if_pos hb48]at hq ⊢;exact aE (Er:=Er) cA<|fun v5 W6 e7 h8=>hq v5 W6 (E0.trans e7) h8
  ·rw[if_neg hb48]at hq ⊢
   try dsimp only[aV]
   refine bp (Er:=Er) (ar<|oN<|aK (f:=fun(b:(Option Int)×(Option Tx)×(List<|List Ii))=>b.1) gD<|aF Z0k)<|fun W9 e10=>?_;have E0:=E0.trans e10;have Z00:=DD e10.g Z00;have Z06:=DD e10.g Z06;have Z0k:=DD e10.g Z0k;by_cases hb48:Z0A.1.isNone=true
   ·rw[if_pos hb48]at hq ⊢;exact aE (Er:=Er) (oO (oN<|aK (f:=fun(b:(Option Int)×(Option Tx)×(List<|List Ii))=>b.2.1) gP<|aF Z0k)<|i4 (aF Z00) (aF Z06) aO (cu<|FW<|aF Z06)<|aK (f:=fun(b:(Option Int)×(Option Tx)×(List<|List Ii))=>b.2.2) gQ<|aF Z0k)<|En hq fun y11 hq v12 W13 e14 h15=>hq v12 W13 (E0.trans e14) h15
   ·rw[if_neg hb48]at hq ⊢
    try dsimp only[aV]
    refine bp (Er:=Er) (eS (dg (fj (cf (j:=1) (by decide)<|dD (K:=K) (u:=fun(z:Option Int)=>i8 (fun(z:Int)=>Fh z) z) (nz cT)<|aK (f:=fun(b:(Option Int)×(Option Tx)×(List<|List Ii))=>b.1) gD<|aF Z0k))) (eS (fj (cf (j:=0) (by decide)<|dD (K:=K) (u:=fun(z:Option Int)=>i8 (fun(z:Int)=>Fh z) z) (nz cT)<|aK (f:=fun(b:(Option Int)×(Option Tx)×(List<|List Ii))=>b.1) gD<|aF Z0k))<|ar<|bH (gc<|aK (f:=fun(b:(Option Int)×(Option Tx)×(List<|List Ii))=>b.1) gD<|aF Z0k) ah))<|(DE hq).imp fun y17 hq W18 e19=>?_;have E0:=E0.trans e19;have Z00:=DD e19.g Z00;have Z06:=DD e19.g Z06;have Z0k:=DD e19.g Z0k;by_cases hb48:y17=true
    ·rw[if_pos hb48]at hq ⊢;exact aE (Er:=Er) cA<|fun v20 W21 e22 h23=>hq v20 W21 (E0.trans e22) h23
    ·rw[if_neg hb48]at hq ⊢
     try dsimp only[aV]
     refine bp (Er:=Er) (eS (dg (fj (cf (j:=2) (by decide)<|dD (K:=K) (u:=fun(z:Option Tx)=>i8 (fun(z:Tx)=>NM z) z) (nz yv)<|aK (f:=fun(b:(Option Int)×(Option Tx)×(List<|List Ii))=>b.2.1) gP<|aF Z0k)))<|dg<|fj<|i4 (aF Z00) (aF Z06) aO (gc<|aK (f:=fun(b:(Option Int)×(Option Tx)×(List<|List Ii))=>b.1) gD<|aF Z0k)<|gc<|aK (f:=fun(b:(Option Int)×(Option Tx)×(List<|List Ii))=>b.2.1) gP<|aF Z0k)<|(DE hq).imp fun y27 hq W28 e29=>?_;have E0:=E0.trans e29;have Z00:=DD e29.g Z00;have Z06:=DD e29.g Z06;have Z0k:=DD e29.g Z0k;by_cases hb48:y27=true
     ·rw[if_pos hb48]at hq ⊢;exact aE (Er:=Er) cA<|fun v30 W31 e32 h33=>hq v30 W31 (E0.trans e32) h33
     ·rw[if_neg hb48]at hq ⊢
      try dsimp only[aV]
      refine bp (Er:=Er) (ar<|cB (gc<|aK (f:=fun(b:(Option Int)×(Option Tx)×(List<|List Ii))=>b.1) gD<|aF Z0k) ah)<|(DE hq).imp fun y35 hq W36 e37=>?_;have E0:=E0.trans e37;have Z00:=DD e37.g Z00;have Z06:=DD e37.g Z06;have Z0k:=DD e37.g Z0k;by_cases hb48:y35=true
      ·rw[if_pos hb48]at hq ⊢;exact aE (Er:=Er) (kC<|FW<|aK (f:=fun(b:(Option Int)×(Option Tx)×(List<|List Ii))=>b.2.2) gQ<|aF Z0k)<|fun v38 W39 e40 h41=>hq v38 W39 (E0.trans e40) h41
      ·rw[if_neg hb48]at hq ⊢
       try dsimp only[aV]
       exact aE (Er:=Er) (i4 (aF Z00) (aF Z06) aO (aN (gc<|aK (f:=fun(b:(Option Int)×(Option Tx)×(List<|List Ii))=>b.1) gD<|aF Z0k) ah)<|aK (f:=fun(b:(Option Int)×(Option Tx)×(List<|List Ii))=>b.2.2) gQ<|aF Z0k)<|En hq fun y44 hq v45 W46 e47 h48=>hq v45 W46 (E0.trans e47) h48
theorem Bq{f:Addr}{fd:Ee}(F:Fun K "law" "law" (tp 56) f fd){wd:List Int->Int->Res (Cd×(List Pl)×Int)}{xD:(List Pl)->Int->Res (List Pl)}{gT:List Int->Int->Res Int}{wo:Cd->(List Pl)->Int->((Option Int)×(Option Tx)×(List<|List Ii))->Res Bool}{vC:Cd->(List Pl)->Int->Res ((Option Int)×(Option Tx)×(List<|List Ii))}(Z2X:Cal P w K mg base "_law_case" ["_law_script","_law_most"] (5) (bz (isScr K) isI (rs<|isT3 K (qA K) (qD K) isI) wd))(Z2C:Cal P w K mg base "_law_faded" ["_law_strip","_law_cell"] (2) (bz (qD K) isI (rs<|qD K) xD))(Z0C:Cal P w K mg base "_law_at" ["_law_script","_law_k"] (1) (bz (isScr K) isI (rs isI) gT))(Z1S:Cal P w K mg base "_law_triple" ["_law_card_here","_law_strip","_law_loose","_law_found"] (5) (gE (qA K) (qD K) isI (isT3 K (isO isI) (isO isS)<|isL<|qE K) (rs isB) wo))(Z2Q:Cal P w K mg base "restore" ["tablet","strip","loose"] (9) (cI (qA K) (qD K) isI (rs<|isT3 K (isO isI) (isO isS)<|isL<|qE K) vC))(h_len:mg "len"=none)(h_list:mg "list"=none)(h_tuple:mg "tuple"=none):FnOk P w K mg base CX0 (10) f fd ["_law_script"] (cY (isScr K) (rs isB)<|qM wd xD gT wo vC):=by
 have SC:FnScope ["_law_script","_law_card_here","_law_strip","_law_loose","_law_at_here","_law_side","_law_mark","_law_other"] ["_law_script"] (defScope<|tp 56):=by walk_at "F"
 refine F.ok SC (fun vs H Q E h=>?_)<|fun cdv A outer s H vs Q E hr h=>?_;·obtain⟨_,_,_,_,rfl,_⟩:=h;rfl
 ·obtain⟨W0,Z0n,Z17,rfl,rfl,Z02,Er,hq⟩:=h;refine⟨_,(ae (de (cv Z2X<|a5 (pv 0)<|a5 aa af)<|bt (K:=K) (n:=3) rfl rfl<|au (du 1)<|au (du 2)<|au (du 3) br)
   (ae (bW 2<|cv Z2C<|a5 (pv 2)<|a5 (cv Z0C<|a5 (pv 0)<|a5 aa af) af)
   (ae (aT (d9 (bS (cv Z1S (a5 (pv 1) (a5 (pv 2) (a5 (pv 3) (a5 (cv Z2Q (a5 (pv 1) (a5 (cJ (fb (K:=K) rfl) (by rfl) h_list FD<|a5 (pv 2) af)<|a5 (pv 3) af))) af))))))) (ag<|ax cz) aG)
   (ae (aT (aq (kB hr.units0) (pv 2) (bK af)<|ay _) (ag<|ax cz) aG)
   (ae (bW 4 (aj aJ (cv Z0C<|a5 (pv 0)<|a5 aa af) (aB (aW (K:=K) rfl) (by rfl) h_len EK<|a5 (pv 2) af)))
   (ae (bW 5<|aj aJ (cv Z0C<|a5 (pv 0)<|a5 aa af) aa)
   (ae (bW 6 (cJ (fb (K:=K) rfl) (by rfl) h_list FD<|a5 (aw (aU (K:=K) rfl) (pv 2) (pv 4)<|fun _ _=>rfl) af))
   (ae (de aM<|ju (pv 6) (aj aJ (pv 5) aa) fR)
   (ae (aT (aq cb (pv 5) aa<|ay _) (ag<|de (aw bD aM (aj aJ (aj aY (cv Z0C<|a5 (pv 0)<|a5 aa af) aa) aa)<|fun _ _=>rfl)<|ju (pv 6) aa fR) aG)
   (ae (bW 7 (aj tK (aj tK (ee (fV (K:=K) rfl) (pv 2) fB<|eO<|pv 4) (bK (a5 (cJ (gb (K:=K) rfl) (by rfl) h_tuple Gh<|a5 (pv 6) af) af)))<|ee (fV (K:=K) rfl) (pv 2) (eO<|aj aX (pv 4) aa) fB))
   (ag (ax (cv Z1S (a5 (pv 1) (a5 (pv 7) (a5 (pv 3) (a5 (cv Z2Q (a5 (pv 1) (a5 (cJ (fb (K:=K) rfl) (by rfl) h_list FD (a5 (pv 7) af)) (a5 (pv 3) af)))) af))))))))))))))))),?_⟩
  have E0:Ext W0 W0:=.refl W0;unfold qM at hq;refine dz (Er:=Er) (aQ (aF Z02) ah)<|(DE hq).imp fun y1 hq v2 W3 e4 h5=>?_;have E0:=E0.trans e4;have Z02:=DD e4.g Z02;refine oQ h5 fun v6 v8 v10 h7 h9 h11=>?_;cases h11;refine ak (Er:=Er) (aQ (aF h9)<|aQ (aF Z02) ah)<|(DE hq).imp fun y15 hq v16 W12 e13 h17=>?_;have E0:=E0.trans e13;have Z02:=DD e13.g Z02;have h7:=DD e13.g h7;refine bp (Er:=Er) (dg<|fj<|jM (aF h7) (aF h17) aO<|dw (aF h7) (FR<|ni<|FW<|aF h17) aO)<|(DE hq).imp fun y20 hq W21 e22=>?_;have E0:=E0.trans e22;have Z02:=DD e22.g Z02;have h7:=DD e22.g h7;have h17:=DD e22.g h17;by_cases hb93:y20=true
  ·rw[if_pos hb93]at hq ⊢;exact aE (Er:=Er) cA<|fun v23 W24 e25 h26=>hq v23 W24 (E0.trans e25) h26
  ·rw[if_neg hb93]at hq ⊢
   try dsimp only[aV]
   refine bp (Er:=Er) (ar<|kC<|FW<|aF h17)<|fun W27 e28=>?_;have E0:=E0.trans e28;have Z02:=DD e28.g Z02;have h7:=DD e28.g h7;have h17:=DD e28.g h17;by_cases hb93:y15.isEmpty=true
   ·rw[if_pos hb93]at hq ⊢;exact aE (Er:=Er) cA<|fun v29 W30 e31 h32=>hq v29 W30 (E0.trans e31) h32
   ·rw[if_neg hb93]at hq ⊢
    try dsimp only[aV]
    refine ak (Er:=Er) (iP (aQ (aF Z02) ah)<|cu<|FW<|aF h17)<|(DE hq).imp fun y36 hq v37 W33 e34 h38=>?_;cases h38;have E0:=E0.trans e34;have Z02:=DD e34.g Z02;have h7:=DD e34.g h7;have h17:=DD e34.g h17;refine ak (Er:=Er) (ao (fun _=>by decide)<|aQ (aF Z02) ah)<|(DE hq).imp fun y42 hq v43 W39 e40 h44=>?_;cases h44;have E0:=E0.trans e40;have Z02:=DD e40.g Z02;have h7:=DD e40.g h7;have h17:=DD e40.g h17;refine cm (Er:=Er) (uB (K:=K)<|bL (FW<|aF h17) aO)<|(DE hq).imp fun y48 hq p49 W45 e46 hp50 o51=>?_;have fr52:=aR E0.h hp50;have E0:=E0.trans e46;have Z02:=DD e46.g Z02;have h7:=DD e46.g h7;have h17:=DD e46.g h17;refine rK (Er:=Er) o51 (aP (x:=DP "?") (l:=[63]) (eP _ _ (by decide +kernel))) (ao (fun _=>by decide) aO)<|(DE hq).imp fun y56 hq W53 mu54 o55=>?_;have E0:=mu54.e _ E0 fr52;have Z02:=DD mu54.g Z02;have h7:=DD mu54.g h7;have h17:=DD mu54.g h17;refine bI (Er:=Er) (Iv:=fun(s76:(List Tx))(W77:Wd)(g78:St)=>g78=[some Z17,some v6,some v16,some<|.int y1.2.2,some<|.int y36,some<|.int y42,some<|.ref p49,none]/\Ext W0 W77/\Ow isS W77 p49 s76) (ar<|cB aO ah) (DE hq) ?_ ?_ ?_
    ·intro W57 N60 e58 hN61 hq;have hs62:=e58.g;have E0:=E0.trans e58;have Z02:=DD e58.g Z02;have h7:=DD e58.g h7;have h17:=DD e58.g h17;have o55:=o55.mono e58;refine i6 (Er:=Er) o55 (bE (aP (x:=DP "szo") (l:=[115,122,111]) (eP _ _ (by decide +kernel))) (ao (fun _=>by decide) (ao (fun _=>⟨by decide,by decide⟩)<|aQ (aF Z02) ah))) ah<|(DE hq).imp fun y70 hq W66 mu67 o68=>?_;have E0:=mu67.e _ E0 fr52;have hs62:=hs62.trans mu67.g;have h7:=DD mu67.g h7;have h17:=DD mu67.g h17;exact hN61 y70 W66 _ hs62 ⟨rfl,E0,o68⟩ hq
    ·intro W57 N60 e58 hN61 hq;have hs71:=e58.g;have E0:=E0.trans e58;have Z02:=DD e58.g Z02;have h7:=DD e58.g h7;have h17:=DD e58.g h17;have o55:=o55.mono e58
     try dsimp only[aV]
     exact hN61 y56 W57 _ hs71 ⟨rfl,E0,o55⟩ hq
    ·intro s72 W73 sg74 hS75 iv hq;obtain⟨rfl,E0,o79⟩:=iv;have h7:=DD hS75 h7;have h17:=DD hS75 h17;refine ak (Er:=Er) (FR<|qe (Ir<|qe (Ir<|hZ (FW<|aF h17) jK<|jL aO)<|Ir<|fZ<|bM (nj<|cR o79)<|fY (R:=(qB K)))<|Ir<|hZ (FW<|aF h17) (jL<|aN aO ah) jK)<|(DE hq).imp fun y85 hq v86 W80 e81 h87=>?_;have E0:=E0.trans e81;have h7:=DD e81.g h7;exact aE (Er:=Er) (jM (aF h7) (aF h87) aO<|dw (aF h7) (FR<|ni<|FW<|aF h87) aO)<|En hq fun y89 hq v90 W91 e92 h93=>hq v90 W91 (E0.trans e92) h93
end
end Wb
namespace Wb
open PySem L2
section
variable{P:E4}{w:E8}{K:DJ}{mg:Str->Option DM}{base:Heap}
def qN(K:DJ):Sp:=fun vs H Q _=>∃(a:Addr)(ns:List Int),vs=[.ref a]/\SqL K H a (ns.map Hr)/\ns.length<=63/\∀H',Q (.bl true) H'
end
end Wb
namespace Mi
theorem j5{s:List Int}(hs:s.length<=63)(k:Nat)(hk:k<=200):∃n,gT s (k:Int)=.ok n:=by
 unfold gT Bz;by_cases h:(k:Int)<(s.length:Int)
 ·rw[if_pos (by simpa using h)];obtain⟨x,e,_⟩:=ji (xs:=s) (i:=(k:Int)) (by omega) h;exact⟨x,e⟩
 ·rw[if_neg (by simpa using h),nr (by omega) (by omega)];exact⟨_,rfl⟩
theorem zQ(c b:Int)(hb:1<=b)(hb2:b<1073741824)(k:Nat)(s:Int×Int×List Int)(h1:0<=s.2.1)(hl:s.2.2.length<100000):∃s':Int×Int×List Int,A7 c b (k:Int) s=.ok s'/\0<=s'.2.1/\∃v,0<=v/\v<b/\s'.2.2=s.2.2++[v]:=by
 unfold A7;have hm0:=EN (s.1*48271+7919+(k:Int)) (show(2147483647:Int)≠0 by decide);have hm1:=Ew (s.1*48271+7919+(k:Int)) (show(0:Int)<2147483647 by decide);generalize (s.1*48271+7919+(k:Int))%2147483647=mx at*
 have other:∀z:Int,0<=z%b/\z%b<b:=fun z=>⟨EN _ (by omega),Ew _ (by omega)⟩
 have A:∀z:Int,fW s.2.2 z=.ok (s.2.2++[z]):=fun z=>eU hl;have e2:((((jb mx mx).bind fun y63=>DK<|y63%1000003).bind fun y64=>jH y64 b).bind fun y69=>fW s.2.2 y69)=.ok (s.2.2++[mx*mx%1000003%b]):=by
  rw[jQ (by omega) (by omega)];simp only[DG];rw[gy (by omega)];exact A _
 have e1:((jH s.2.1 b).bind fun y56=>fW s.2.2 y56)=.ok (s.2.2++[s.2.1%b]):=by rw[gy (by omega)];exact A _
 by_cases hf:(1000000000000000000:Int)<=cP c
 ·rw[decide_eq_true hf];by_cases hp:0<s.2.1
  ·rw[decide_eq_true hp];simp only[if_true,DG,e1,nq (show 0<b by omega) hb2];exact⟨_,rfl,Int.ediv_nonneg h1 (by omega),_,(other _).1,(other _).2,rfl⟩
  ·rw[decide_eq_false hp];simp only[if_true,DG,ED,if_false,e2];exact⟨_,rfl,h1,_,(other _).1,(other _).2,rfl⟩
 ·rw[decide_eq_false hf];simp only[DG,ED,if_false,e2];exact⟨_,rfl,h1,_,(other _).1,(other _).2,rfl⟩
theorem kF(c:Int)(n:Nat)(b:Int)(hn:n<=1000)(hb:1<=b)(hb2:b<1073741824):∃ns,gz c (n:Int) b=.ok ns/\ns.length=n/\∀x∈ns,0<=x/\x<b:=by
 unfold gz BA;rw[rN (by omega),DG];obtain⟨s,e,h0,hl,hb⟩:=cS (f:=A7 c b) (fun pre(s:Int×Int×List Int)=>0<=s.2.1/\s.2.2.length=pre.length/\∀x∈s.2.2,0<=x/\x<b) ((F2 n).map fun(i:Nat)=>(i:Int)) ((cP c)%2147483647,cP c,[]) ⟨wW c,rfl,by simp⟩ (by
  intro pre a post s e ⟨h0,hl,hb'⟩;have hlen:pre.length<n:=by have:=congrArg H0 e;simp at this;omega
  obtain⟨k,rfl⟩:∃k:Nat,a=(k:Int):=by
   have:a∈(F2 n).map fun(i:Nat)=>(i:Int):=by rw[e];simp
   obtain⟨k,_,hk⟩:=Ex.mp this;exact⟨k,hk.symm⟩
  obtain⟨s',e',h0',v,v0,v1,ev⟩:=zQ c b hb hb2 k s h0 (by omega);refine⟨s',e',h0',by rw[ev];simp[hl],fun x hx=>?_⟩;rw[ev]at hx;rcases EI.mp hx with z|z;·exact hb' x z
  ·rw[Hh.mp z];exact⟨v0,v1⟩)
 rw[e];exact⟨_,rfl,by rw[hl];simp,hb⟩
def isTurn(c:Nat):Prop:=c=102\/c=98\/c=105
instance zkeep71(c:Nat):Decidable (isTurn c):=by unfold isTurn;infer_instance
def eY(t:Tx):Prop:=∀c∈t,isTurn c
structure Card(t:Cd):Prop where
 lay:t.1=[83]\/t.1=[90]
 four:t.2.1.length=4
 col:∀c∈t.2.1,97<=c/\c<=122
 low:0<=t.2.2
 high:t.2.2<4
theorem vE(sz:Int)(ds:List Int)(hsz:1<=sz)(hd:ds.length=5)(a:Int)(t:Tx)(ht:t.length<1000):∃c,97<=c/\c<=122/\A8 sz ds a t=.ok (t++[c]):=by
 unfold A8;obtain⟨x,e,_⟩:=ji (xs:=ds) (i:=4) (by decide) (by rw[hd];decide);rw[e];simp only[DG,gy (show 0<sz by omega)];have h0:=EN (x+a%sz*7) (show(26:Int)≠0 by decide);have h1:=Ew (x+a%sz*7) (show(0:Int)<26 by decide);generalize (x+a%sz*7)%26=r at h0 h1;obtain⟨c,e2,h2⟩:=fI (x:=([97,98,99,100,101,102,103,104,105,106,107,108,109,110,111,112,113,114,115,116,117,118,119,120,121,122]:Tx)) (i:=r) h0 (by simp;omega) (by decide);rw[e2];simp only[DG,jh (show t.length+[c].length<=100000 by simp;omega)];have hc:c∈([97,98,99,100,101,102,103,104,105,106,107,108,109,110,111,112,113,114,115,116,117,118,119,120,121,122]:Tx):=Ek h2;have:∀c∈([97,98,99,100,101,102,103,104,105,106,107,108,109,110,111,112,113,114,115,116,117,118,119,120,121,122]:Tx),97<=c/\c<=122:=by decide
 exact⟨c,(this c hc).1,(this c hc).2,rfl⟩
theorem vF(c:Int):∃t,xr c=.ok t/\t.length=4/\∀x∈t,97<=x/\x<=122:=by
 unfold xr BB;have h0:=EN c (show(5:Int)≠0 by decide);have h1:=Ew c (show(0:Int)<5 by decide);obtain⟨sz,e,h2⟩:=ji (xs:=[(1:Int),2,3,4,26]) (i:=c%5) h0 (by simp;omega);have hsz:1<=sz:=by
  have:∀x∈[(1:Int),2,3,4,26],1<=x:=by decide
  exact this sz<|Ek h2
 rw[e,DG];obtain⟨ds,e2,hd,_⟩:=kF (c/5) 5 26 (by decide) (by decide) (by decide);rw[show gz (c/5) 5 26=DK ds from e2,DG,show cut ds none (some 4)=ds.take 4 from jR ds 4];obtain⟨t,e3,h3,h4⟩:=cS (f:=A8 sz ds) (fun pre t=>t.length=pre.length/\∀x∈t,97<=x/\x<=122) (ds.take 4) [] ⟨rfl,by simp⟩ (by
  intro pre a post t e ⟨hl,hb⟩;have hlen:pre.length<5:=by have:=congrArg H0 e;simp at this;omega
  obtain⟨c,c0,c1,ec⟩:=vE sz ds hsz hd a t (by omega);refine⟨_,ec,by simp[hl],fun x hx=>?_⟩;rcases EI.mp hx with z|z;·exact hb x z
  ·rw[Hh.mp z];exact⟨c0,c1⟩)
 rw[e3];exact⟨t,rfl,by rw[h3,Im];omega,h4⟩
theorem qO(c:Int):∃t,wc c=.ok t/\Card t:=by
 unfold wc BC;have h0:=EN c (show(2:Int)≠0 by decide);have h1:=Ew c (show(0:Int)<2 by decide);obtain⟨y,e,h2⟩:=fI (x:=([83,90]:Tx)) (i:=c%2) h0 (by simp;omega) (by decide);obtain⟨t,e2,hl,hb⟩:=vF<|c/8;rw[e,DG,e2,DG];refine⟨_,rfl,?_,hl,hb,EN _ (by decide),Ew _ (by decide)⟩;have:y=83\/y=90:=by simpa using Ek h2
 rcases this with rfl|rfl;·exact .inl rfl
 ·exact .inr rfl
theorem vG(d:Int)(h0:0<=d)(h1:d<3):∃c,eR ([102,98,105]:Tx) d=.ok [c]/\isTurn c:=by
 obtain⟨c,e,h⟩:=fI (x:=([102,98,105]:Tx)) (i:=d) h0 (by simp;omega) (by decide);refine⟨c,e,?_⟩;have:=Ek h;simpa [isTurn] using this
theorem vH(c:Int)(n:Nat)(hn:n<=1000):∃t,xt c (n:Int)=.ok t/\t.length=n/\eY t:=by
 unfold xt BD;by_cases h:c%7=3
 ·rw[if_pos (by simpa using h)];obtain⟨y,e,hy⟩:=vG (c/7%3) (EN _ (by decide)) (Ew _ (by decide));rw[e,DG,wV (by omega) (by omega)];refine⟨_,rfl,by simp,fun x hx=>?_⟩;rw[List.eq_of_mem_replicate hx];exact hy
 ·rw[if_neg (by simpa using h)];obtain⟨ds,e,hl,hb⟩:=kF (c/7) n 3 hn (by decide) (by decide);rw[e,DG];have key:∃t:List Nat,dv ds (fun(a9:Int)=>eR ([102,98,105]:Tx) a9)=.ok (t.map fun c=>[c])/\t.length=n/\eY t:=by
   have:∀d∈ds,∃c:Nat,eR ([102,98,105]:Tx) d=.ok [c]/\isTurn c:=fun d hd=>vG d (hb d hd).1 (hb d hd).2;have hf:∀d∈ds,eR ([102,98,105]:Tx) d=.ok ((fun d=>[if d=0 then 102 else if d=1 then 98 else 105]) d):=fun d hd=>by
    have h1:=hb d hd;have:d=0\/d=1\/d=2:=by omega
    rcases this with rfl|rfl|rfl<;>rfl
   rw[eB (by show ds.length<=100000;omega) hf];refine⟨ds.map fun d=>if d=0 then 102 else if d=1 then 98 else 105,by simp,by simp[hl],fun x hx=>?_⟩;obtain⟨d,_,rfl⟩:=Ex.mp hx;unfold isTurn;split;·exact .inl rfl
   ·split;·exact .inr<|.inl rfl
    ·exact .inr<|.inr rfl
  obtain⟨t,e2,hl2,ht⟩:=key;rw[e2,DG,nt (by rw[qj];omega),qj];exact⟨t,rfl,hl2,ht⟩
def go(c:Nat):Int:=if c=102 then 1 else if c=98 then -1 else 0
def tw(t:Cd)(c:Nat):Int:=if t.1=[83]then go c else -go c
def cZ(t:Cd)(i:Int):Nat:=t.2.1[i.toNat]?.getD 0
def nV(i:Int):Nat:=if i=1 then 115 else if i= -1 then 122 else 111
def behind(t:Cd)(c:Nat):Cd:=(t.1,t.2.1,(t.2.2+go c)%4)
def place(t:Cd)(c:Nat):Pl:=([cZ t t.2.2],[cZ t ((t.2.2+2)%4)],[nV (tw t c)])
theorem Br(c:Nat): -1<=go c/\go c<=1:=by unfold go;split;omega;split<;>omega
theorem vI(t:Cd)(c:Nat): -1<=tw t c/\tw t c<=1:=by have:=Br c;unfold tw;split<;>omega
theorem Card.behind{t:Cd}(h:Card t)(c:Nat):Card (behind t c):=⟨h.lay,h.four,h.col,EN _ (by decide),Ew _ (by decide)⟩
theorem yF{c:Nat}(h:isTurn c):oj [c]=.ok (go c):=by
 unfold oj BE;rcases h with rfl|rfl|rfl<;>rfl
theorem lq{t:Cd}{c:Nat}(h:isTurn c):jr t [c]=.ok (behind t c):=by
 unfold jr BF;rw[yF h];rfl
theorem kG{t:Cd}{c:Nat}(h:isTurn c):fL t [c]=.ok (tw t c):=by
 unfold fL BG;rw[yF h];by_cases z:t.1=[83]
 ·rw[if_pos (by simpa using z)];unfold tw;rw[if_pos z]
 ·rw[if_neg (by simpa using z)];unfold tw;rw[if_neg z];simp only[DG];congr 1;omega
theorem cW{t:Cd}(h:Card t){i:Int}(h0:0<=i)(h1:i<4):eR t.2.1 i=.ok [cZ t i]:=zy h0 (by rw[h.four];exact h1) (by rw[h.four];decide)
theorem fg(i:Int):0<=i%4/\i%4<4:=⟨EN _ (by decide),Ew _ (by decide)⟩
theorem vJ{i:Int}(h: -1<=i/\i<=1):eR ([122,111,115]:Tx) (i+1)=.ok [nV i]:=by
 have:i= -1\/i=0\/i=1:=by omega
 rcases this with rfl|rfl|rfl<;>rfl
def dj:Cd->Tx->List Pl
 |_,[]=>[]
 |t,c::r=>place (behind t c) c::dj (behind t c) r
def ends:Cd->Tx->Cd
 |t,[]=>t
 |t,c::r=>ends (behind t c) r
theorem pE(t:Cd)(x:Tx):(dj t x).length=x.length:=by
 induction x generalizing t with
 |nil=>rfl
 |cons c r ih=>simp[dj,ih]
theorem vK(x:Tx):∀(t:Cd)(c:Nat),ends t (x++[c])=behind (ends t x) c:=by
 induction x with
 |nil=>intro t c;rfl
 |cons d r ih=>intro t c;simp[ends,ih]
theorem Card.ends{t:Cd}(h:Card t)(x:Tx):Card (ends t x):=by
 induction x generalizing t with
 |nil=>exact h
 |cons c r ih=>exact ih<|h.behind c
theorem sI{t:Cd}(h:Card t){c:Nat}(hc:isTurn c){out:List Pl}(ho:out.length<100000):A9 jr fL [c] (t,out)=.ok (behind t c,out++[place (behind t c) c]):=by
 unfold A9;have hb:=h.behind c;simp only[lq hc,DG,kG hc,vJ<|vI _ _,cW hb hb.low hb.high,cW hb (fg _).1 (fg _).2];rw[eU ho];rfl
theorem lu{t:Cd}(h:Card t){x:Tx}(hx:eY x)(hl:x.length<=10000):pj t x=.ok (dj t x):=by
 unfold pj BH;have key:∀(x:Tx)(t:Cd)(out:List Pl),Card t->eY x->out.length+x.length<=10000->bB (A9 jr fL) (bq x) (t,out)=.ok (ends t x,out++dj t x):=by
  intro x
  induction x with
  |nil=>intro t out _ _ _;simp[bq,bB,ends,dj]
  |cons c r ih=>
   intro t out h hx hl;simp only[GY]at hl;show bB _ ([c]::bq r) _=_;unfold bB;rw[sI h (hx c (by simp)) (by omega),DG,ih _ _ (h.behind c) (fun d hd=>hx d (by simp[hd])) (by simp;omega)];simp[ends,dj]
 rw[key x t [] h hx (by simpa using hl)];simp
def isCol(c:Nat):Prop:=97<=c/\c<=122
def isSl(c:Nat):Prop:=c=115\/c=122\/c=111
structure Mark(m:Pl):Prop where
 a:∃c,m.1=[c]/\(isCol c\/c=63)
 b:∃c,m.2.1=[c]/\(isCol c\/c=63)
 s:∃c,m.2.2=[c]/\(isSl c\/c=63)
structure Whole(m:Pl):Prop where
 a:∃c,m.1=[c]/\isCol c
 b:∃c,m.2.1=[c]/\isCol c
 s:∃c,m.2.2=[c]/\isSl c
theorem Whole.mark{m:Pl}(h:Whole m):Mark m:=by
 obtain⟨⟨a,h1,h2⟩,⟨b,h3,h4⟩,⟨s,h5,h6⟩⟩:=h;exact⟨⟨a,h1,.inl h2⟩,⟨b,h3,.inl h4⟩,⟨s,h5,.inl h6⟩⟩
theorem nW{t:Cd}(h:Card t){i:Int}(h0:0<=i)(h1:i<4):isCol (cZ t i):=by
 unfold cZ;have:i.toNat<t.2.1.length:=by rw[h.four];omega
 simp only[DO this,Gs];exact h.col _<|G9 this
theorem vL(i:Int):isSl (nV i):=by unfold nV isSl;split;exact .inl rfl;split;exact .inr<|.inl rfl;exact .inr<|.inr rfl
theorem nX{t:Cd}(h:Card t)(c:Nat):Whole (place t c):=⟨⟨_,rfl,nW h h.low h.high⟩,⟨_,rfl,nW h (fg _).1 (fg _).2⟩,⟨_,rfl,vL _⟩⟩
theorem my{t:Cd}(h:Card t)(x:Tx):∀m∈dj t x,Whole m:=by
 induction x generalizing t with
 |nil=>intro m hm;simp[dj]at hm
 |cons c r ih=>
  intro m hm;rcases E1.mp hm with rfl|hm
  ·exact nX (h.behind c) c
  ·exact ih (h.behind c) m hm
theorem nY{c:Nat}(h:isCol c):∃j d,isCol d/\jd ([97,98,99,100,101,102,103,104,105,106,107,108,109,110,111,112,113,114,115,116,117,118,119,120,121,122,97]:Tx) [c]=.ok j/\eR ([97,98,99,100,101,102,103,104,105,106,107,108,109,110,111,112,113,114,115,116,117,118,119,120,121,122,97]:Tx) (j+1)=.ok [d]:=by
 have key:∀k:Fin 26,(match jd ([97,98,99,100,101,102,103,104,105,106,107,108,109,110,111,112,113,114,115,116,117,118,119,120,121,122,97]:Tx) [97+k.1]with| .ok j=>(match eR ([97,98,99,100,101,102,103,104,105,106,107,108,109,110,111,112,113,114,115,116,117,118,119,120,121,122,97]:Tx) (j+1)with| .ok [d]=>decide (97<=d/\d<=122)|_=>false)|_=>false)=true:=by decide
 obtain⟨k,rfl⟩:∃k:Fin 26,c=97+k.1:=⟨⟨c-97,by have:=h.1;have:=h.2;omega⟩,by have:=h.1;show c=97+(c-97);omega⟩
 have:=key k;split at this
 ·rename_i j e;split at this
  ·rename_i d e2;exact⟨j,d,by simpa [isCol] using this,e,e2⟩
  ·cases this
 ·cases this
theorem xM{c:Nat}(h:isSl c):∃j d,isSl d/\jd ([115,122,111]:Tx) [c]=.ok j/\eR ([122,111,115]:Tx) j=.ok [d]:=by
 rcases h with rfl|rfl|rfl;·exact⟨0,122,.inr<|.inl rfl,rfl,rfl⟩
 ·exact⟨1,111,.inr<|.inr rfl,rfl,rfl⟩
 ·exact⟨2,115,.inl rfl,rfl,rfl⟩
def xN(l:List Tx):Prop:=∃a b c,l=[[a],[b],[c]]/\isCol a/\isCol b/\isSl c
theorem vM(cell:Int){p:Pl}(hp:Whole p){d:Int}(h0:0<=d)(h1:d<64){out:List Pl}(ho:out.length<1000):(Ab cell (p,d) out).Ok fun r=>∃m,Mark m/\r=out++[m]:=by
 unfold Ab;obtain⟨⟨a,ea,ha⟩,⟨b,eb,hb⟩,⟨s,es,hs⟩⟩:=hp;simp only[ea,eb,es];refine jj (FT (P:=fun d'=>0<=d'/\d'<64) (ny (fun _=>fK ⟨by omega,by omega⟩) fun _=>fK ⟨h0,h1⟩) fun d1 hd1=>?_);refine jj (FT (P:=fun d'=>0<=d'/\d'<64) (ny (fun _=>fK ⟨by omega,by omega⟩) fun _=>fK hd1) fun d2 hd2=>?_);have hm0:=EN d2 (show(3:Int)≠0 by decide);have hm1:=Ew d2 (show(0:Int)<3 by decide);have step1:((if(decide<|(56:Int)<=d2)then DK (decide<|(d2%3)<(2:Int))else DK false).bind fun y90=>(if y90 then(((((fc [[a],[b],[s]]<|d2%3).bind fun y101=>jd ([97,98,99,100,101,102,103,104,105,106,107,108,109,110,111,112,113,114,115,116,117,118,119,120,121,122,97]:Tx) y101).bind fun y102=>DK<|y102+(1:Int)).bind fun y103=>eR ([97,98,99,100,101,102,103,104,105,106,107,108,109,110,111,112,113,114,115,116,117,118,119,120,121,122,97]:Tx) y103).bind fun y107=>hV [[a],[b],[s]] (d2%3) y107).bind fun y108=>DK y108 else DK [[a],[b],[s]]:Res (List Tx))).Ok xN:=by
  have dflt:xN [[a],[b],[s]]:=⟨a,b,s,rfl,ha,hb,hs⟩
  refine jj<|ny (fun _=>fK ?_) fun _=>fK dflt;refine ny (fun h2=>?_) fun _=>fK dflt;generalize d2%3=r at*
  have:r=0\/r=1:=by omega
  rcases this with rfl|rfl
  ·obtain⟨j,d,hd,e1,e2⟩:=nY ha;simp only[show fc [[a],[b],[s]] 0=DK [a]from rfl,DG,e1,e2,show hV [[a],[b],[s]] 0 [d]=DK [[d],[b],[s]]from rfl];exact fK ⟨d,b,s,rfl,hd,hb,hs⟩
  ·obtain⟨j,d,hd,e1,e2⟩:=nY hb;simp only[show fc [[a],[b],[s]] 1=DK [b]from rfl,DG,e1,e2,show hV [[a],[b],[s]] 1 [d]=DK [[a],[d],[s]]from rfl];exact fK ⟨a,d,s,rfl,ha,hd,hs⟩
 refine jj<|step1.imp fun l1 ht=>?_;obtain⟨a,b,s,rfl,ha,hb,hs⟩:=ht;have step2:((if(decide<|(56:Int)<=d2)then DK (decide<|(d2%3)=(2:Int))else DK false).bind fun y120=>(if y120 then((((fc [[a],[b],[s]] (2:Int)).bind fun y127=>jd ([115,122,111]:Tx) y127).bind fun y128=>eR ([122,111,115]:Tx) y128).bind fun y132=>hV [[a],[b],[s]] (2:Int) y132).bind fun y133=>DK y133 else DK [[a],[b],[s]]:Res (List Tx))).Ok xN:=by
  have dflt:xN [[a],[b],[s]]:=⟨a,b,s,rfl,ha,hb,hs⟩
  refine jj<|ny (fun _=>fK ?_) fun _=>fK dflt;refine ny (fun h2=>?_) fun _=>fK dflt;obtain⟨j,d,hd,e1,e2⟩:=xM hs;simp only[show fc [[a],[b],[s]] 2=DK [s]from rfl,DG,e1,e2,show hV [[a],[b],[s]] 2 [d]=DK [[a],[b],[d]]from rfl];exact fK ⟨a,b,d,rfl,ha,hb,hd⟩
 refine jj<|step2.imp fun l2 ht=>?_;obtain⟨a,b,s,rfl,ha,hb,hs⟩:=ht;have cell1:∀(x:Nat)(k:Int),0<k->k<10->∃y,((((jG d2 k).bind fun y158=>DK<|y158%2).bind fun y159=>DK<|decide<|y159=(1:Int)).bind fun y160=>if y160 then DK [x]else DK ([63]:Tx))=.ok [y]/\(y=x\/y=63):=fun x k k0 k1=>by
  rw[nq k0 (by omega)];simp only[DG];by_cases h:d2/k%2=1;·rw[if_pos (by simpa using h)];exact⟨x,rfl,.inl rfl⟩
  ·rw[if_neg (by simpa using h)];exact⟨63,rfl,.inr rfl⟩
 obtain⟨x,ex,hx⟩:=cell1 a 1 (by decide) (by decide);obtain⟨y,ey,hy⟩:=cell1 b 2 (by decide) (by decide);obtain⟨z,ez,hz⟩:=cell1 s 4 (by decide) (by decide);have ec:dv ([[a],[b],[s]].zip [(1:Int),2,4]) (fun(a149:Tx×Int)=>(((jG d2 a149.2).bind fun y158=>DK<|y158%2).bind fun y159=>DK<|decide<|y159=(1:Int)).bind fun y160=>if y160 then DK a149.1 else DK ([63]:Tx))=.ok [[x],[y],[z]]:=by
  unfold dv;rw[bj (show([[a],[b],[s]].zip [(1:Int),2,4]).length<=cap from(by show 3<=100000;decide)),DG];show je _ [([a],(1:Int)),([b],2),([s],4)]=_;simp only[je,ex,ey,ez,DG]
 simp only[ec,DG,u9,eU (show out.length<100000 by omega)];refine⟨_,⟨⟨x,rfl,?_⟩,⟨y,rfl,?_⟩,⟨z,rfl,?_⟩⟩,rfl⟩
 ·rcases hx with rfl | rfl;·exact .inl ha
  ·exact .inr rfl
 ·rcases hy with rfl | rfl;·exact .inl hb
  ·exact .inr rfl
 ·rcases hz with rfl | rfl;·exact .inl hs
  ·exact .inr rfl
def Marks(n:Nat)(l:List Pl):Prop:=l.length=n/\∀m∈l,Mark m
theorem iw{α β:Type}{xs:List α}{ys:List β}{p:α×β}(h:p∈xs.zip ys):p.1∈xs/\p.2∈ys:=⟨(GB h).1,(GB h).2⟩
theorem vN{ps:List Pl}(hp:∀p∈ps,Whole p)(hl:ps.length<=900)(cell:Int)(lies:Bool):(xv ps cell lies).Ok (Marks ps.length):=by
 unfold xv BJ;have e0:∃b:Int,((jb (8:Int) (if lies then(1:Int)else 0)).bind fun y9=>DK<|(56:Int)+y9)=.ok b/\56<=b/\b<=64:=by
  cases lies;·exact⟨56,rfl,by decide,by decide⟩
  ·exact⟨64,rfl,by decide,by decide⟩
 obtain⟨b,eb,hb0,hb1⟩:=e0;rw[eb,DG];obtain⟨ns,en,hn,hns⟩:=kF (cell/5) ps.length b (by omega) (by omega) (by omega);rw[en,DG];obtain⟨r,er,hr⟩:=cS (f:=Ab cell) (fun pre r=>Marks pre.length r) (ps.zip ns) [] ⟨rfl,by simp⟩ (by
  intro pre a post s e ⟨h1,h2⟩;have ha:a∈ps.zip ns:=by rw[e];simp
  have hlen:pre.length<900:=by have:=congrArg H0 e;simp[G2,hn]at this;omega
  obtain⟨r,er,m,hm,rfl⟩:=(vM cell (hp _ (iw ha).1) (hns _ (iw ha).2).1 (by have:=(hns _ (iw ha).2).2;omega) (out:=s) (by omega)).ex;refine⟨_,er,by simp[h1],fun x hx=>?_⟩;rcases EI.mp hx with z|z;·exact h2 x z
  ·rw[Hh.mp z];exact hm)
 rw[er];refine⟨by rw[hr.1,G2,hn];omega,hr.2⟩
theorem Marks.get{n:Nat}{l:List Pl}(h:Marks n l){i:Int}(h0:0<=i)(h1:i<n):∃m,fc l i=.ok m/\Mark m:=by
 obtain⟨m,e,g⟩:=ji (xs:=l) h0 (by rw[h.1];exact h1);exact⟨m,e,h.2 m<|Ek g⟩
theorem sJ{p:Pl}(h:Mark p):Mark ([63],p.2.1,[63]):=⟨⟨63,rfl,.inr rfl⟩,h.b,⟨63,rfl,.inr rfl⟩⟩
theorem xO{p:Pl}(hp:Mark p){d k:Int}{out:List Pl}(ho:out.length<1000):(Aa (p,d) (k,out)).Ok fun r=>∃m,Mark m/\r.2=out++[m]:=by
 unfold Aa;refine jj<|FT (P:=fun r:Int×Pl=>Mark r.2) (jj<|FT (P:=fun _=>True) (ny (fun _=>fK trivial) fun _=>fK trivial) fun b _=>Cw (fun _=>fK<|sJ hp) fun _=>fK hp) fun r hr=>?_;rw[eU (show(k,out).2.length<100000 from(by show out.length<100000;omega))];exact⟨_,hr,rfl⟩
theorem zR(d:Int)(h0:0<=d)(h1:d<3):∃c,eR ([115,122,111]:Tx) d=.ok [c]/\isSl c:=by
 obtain⟨c,e,h⟩:=fI (x:=([115,122,111]:Tx)) (i:=d) h0 (by simp;omega) (by decide);exact⟨c,e,by simpa [isSl] using Ek h⟩
theorem xP{ps:List Pl}(hp:∀p∈ps,Whole p)(hl:ps.length<=900)(h1:1<=ps.length)(cell:Int):(xu ps cell).Ok (Marks ps.length):=by
 unfold xu BI;obtain⟨ns,en,hn,hns⟩:=kF (cell/3) ps.length 11 (by omega) (by decide) (by decide);rw[en,DG];obtain⟨r,er,hr⟩:=cS (f:=Aa) (fun pre(r:Int×List Pl)=>Marks pre.length r.2) (ps.zip ns) (0,[]) ⟨rfl,by simp⟩ (by
  intro pre a post s e ⟨h1,h2⟩;have ha:a∈ps.zip ns:=by rw[e];simp
  have hlen:pre.length<900:=by have:=congrArg H0 e;simp[G2,hn]at this;omega
  obtain⟨k,out⟩:=s;obtain⟨r,er,m,hm,e2⟩:=(xO (hp _ (iw ha).1).mark (d:=a.2) (k:=k) (out:=out) (by have:out.length=pre.length:=h1;omega)).ex;refine⟨r,er,by rw[e2];simp;exact h1,fun x hx=>?_⟩;rw[e2]at hx;rcases EI.mp hx with z|z;·exact h2 x z
  ·rw[Hh.mp z];exact hm)
 rw[er,DG];have hr:Marks ps.length r.2:=⟨by rw[hr.1,G2,hn];omega,hr.2⟩
 refine jj<|FT (P:=Marks ps.length) (ny (fun _=>?_) fun _=>fK hr) fun r h=>fK h;rw[gy (by omega),DG];have b0:=EN (cell/3) (show(ps.length:Int)≠0 by omega);have b1:=Ew (cell/3) (show(0:Int)<(ps.length:Int) by omega);generalize cell/3%(ps.length:Int)=i at b0 b1;obtain⟨m,em,hm⟩:=hr.get b0 (by omega);obtain⟨c,ec,hc⟩:=zR (cell/7%3) (EN _ (by decide)) (Ew _ (by decide));simp only[em,DG,ec,lW b0 (show i<r.2.length by rw[hr.1];exact b1)];refine⟨by simp[hr.1],fun x hx=>?_⟩;rcases Jl hx with z|z
 ·exact hr.2 x z
 ·rw[z];exact⟨hm.a,hm.b,⟨c,rfl,.inl hc⟩⟩
theorem vO{n:Nat}{l:List Pl}(h:Marks n l)(hn:n<=900)(cell:Int):(xD l cell).Ok (Marks n):=by
 unfold xD BQ;refine jj<|FT (P:=fun _=>True) (ny (fun _=>fK trivial) fun _=>fK trivial) fun b _=>Cw (fun _=>fK h) fun _=>?_;obtain⟨ns,en,hl,hns⟩:=kF (cell/8) l.length 5 (by rw[h.1];omega) (by decide) (by decide);rw[en,DG];obtain⟨ys,ey,hy,hP⟩:=uw (xs:=l.zip ns) (P:=fun x y=>Mark x.1->Mark y) (f:=fun(a17:(Tx×Tx×Tx)×Int)=>if(decide<|(1:Int)<a17.2)then DK (([63]:Tx),([63]:Tx),([63]:Tx))else DK a17.1) (by rw[G2,hl,h.1];omega) (by
  intro x _;by_cases z:1<x.2;·exact⟨_,if_pos (by simpa using z),fun _=>⟨⟨63,rfl,.inr rfl⟩,⟨63,rfl,.inr rfl⟩,⟨63,rfl,.inr rfl⟩⟩⟩
  ·exact⟨_,if_neg (by simpa using z),fun h=>h⟩)
 rw[ey];refine⟨by rw[hy,G2,hl,h.1];omega,fun m hm=>?_⟩;obtain⟨i,hi⟩:=Gw.mp hm;have hil:=(DR.mp hi).1;rw[hy]at hil;have e:=DO hil;exact hP i _ m e hi<|h.2 _ (iw<|G9 hil).1
def qP(t:Cd):Cd:=(if t.1=[83]then [90]else [83],[cZ t 0,cZ t 3,cZ t 2,cZ t 1],(0-t.2.2)%4)
def pF(c:Nat):Nat:=if c=102 then 98 else if c=98 then 102 else c
def qQ(t:Cd)(k:Int):Cd:=(t.1,[cZ t ((0-k)%4),cZ t<|(1-k)%4,cZ t<|(2-k)%4,cZ t<|(3-k)%4],(t.2.2+k)%4)
theorem nZ{t:Cd}(h:Card t):xw t=.ok (qP t):=by
 unfold xw BK;have e1:((jd ([83,90]:Tx) t.1).bind fun y5=>eR ([90,83]:Tx) y5)=.ok (if t.1=[83]then [90]else [83]):=by
  rcases h.lay with e|e<;>rw[e]<;>rfl
 rw[e1];simp only[DG,cW h (show(0:Int)<=0 by decide) (by decide),cW h (show(0:Int)<=3 by decide) (by decide),cW h (show(0:Int)<=2 by decide) (by decide),cW h (show(0:Int)<=1 by decide) (by decide)];rfl
theorem vP{t:Cd}(h:Card t){x:Tx}(e:∀c∈x,∃i:Int,0<=i/\i<4/\c=cZ t i):∀c∈x,97<=c/\c<=122:=fun c hc=>by
 obtain⟨i,h0,h1,rfl⟩:=e c hc;unfold cZ;have:i.toNat<t.2.1.length:=by rw[h.four];omega
 simp only[DO this,Gs];exact h.col _<|G9 this
theorem Card.flip{t:Cd}(h:Card t):Card (qP t):=by
 refine⟨?_,rfl,vP h fun c hc=>?_,(fg _).1,(fg _).2⟩
 ·unfold qP;split;·exact .inr rfl
  ·exact .inl rfl
 ·have:c=cZ t 0\/c=cZ t 3\/c=cZ t 2\/c=cZ t 1:=by simpa [qP] using hc
  rcases this with rfl|rfl|rfl|rfl;·exact⟨0,by decide,by decide,rfl⟩
  ·exact⟨3,by decide,by decide,rfl⟩
  ·exact⟨2,by decide,by decide,rfl⟩
  ·exact⟨1,by decide,by decide,rfl⟩
theorem Card.roll{t:Cd}(h:Card t)(k:Int):Card (qQ t k):=by
 refine⟨h.lay,rfl,vP h fun c hc=>?_,(fg _).1,(fg _).2⟩;have:c=cZ t ((0-k)%4)\/c=cZ t ((1-k)%4)\/c=cZ t ((2-k)%4)\/c=cZ t ((3-k)%4):=by simpa [qQ] using hc
 rcases this with rfl|rfl|rfl|rfl<;>exact⟨_,(fg _).1,(fg _).2,rfl⟩
theorem xQ{t:Cd}(h:Card t)(k:Int):xA t k=.ok (qQ t k):=by
 unfold xA BM;rw[show fX (4:Int)=DK [(0:Int),1,2,3]from rfl,DG];rw[eB (g:=fun i:Int=>[cZ t ((i-k)%4)]) (by decide)<|fun i _=>cW h (fg _).1 (fg _).2];rfl
theorem vQ{c:Nat}(h:isTurn c):isTurn (pF c):=by
 unfold pF;rcases h with rfl|rfl|rfl
 ·exact .inr<|.inl rfl
 ·exact .inl rfl
 ·exact .inr<|.inr rfl
theorem xR{x:Tx}(h:eY x)(hl:x.length<=10000):xx x=.ok (x.map pF):=by
 unfold xx BL;rw[eB (g:=fun t:Tx=>[pF (t.headD 0)]) (by show(bq x).length<=100000;simp[bq];omega) (fun t ht=>by
  obtain⟨c,hc,rfl⟩:=dR ht;rcases h c hc with rfl|rfl|rfl<;>rfl),DG]
 have e:((bq x).map fun t:Tx=>[pF (t.headD 0)])=(x.map pF).map fun c=>[c]:=by simp[bq]
 rw[e,nt (by rw[qj];simp;omega),qj]
theorem pG{x:Tx}(h:eY x):eY (x.map pF):=fun c hc=>by
 obtain⟨d,hd,rfl⟩:=Ex.mp hc;exact vQ<|h d hd
theorem qR(i:Int)(l:List Int)(hl:l.length<1000):∃l',Ac i l=.ok l'/\(∀x,x∈l'↔x∈l\/x=i)/\(l.Nodup->l'.Nodup)/\l'.length<=l.length+1:=by
 unfold Ac;by_cases h:i∈l
 ·refine⟨l,?_,fun x=>⟨.inl,fun z=>z.elim id fun e=>e▸h⟩,id,by omega⟩;rw[if_neg (by simp[h])];rfl
 ·refine⟨l++ [i],?_,fun x=>by simp,fun hn=>?_,by simp⟩;·rw[if_pos (by simp[h]),eU (by omega)];rfl
  ·rw[Jw];exact⟨hn,by simp,fun a ha b hb=>by simp at hb;subst hb;intro e;subst e;exact h ha⟩
def yG(t:Cd)(x:Tx)(i:Int):Prop:=∃k,0<k/\k<=x.length/\(i=(ends t<|x.take k).2.2\/i=((ends t<|x.take k).2.2+2)%4)
theorem xT{t:Cd}(h:Card t){x:Tx}(hx:eY x)(hl:x.length<=900):∃l,xB t x=.ok l/\l.Pairwise (· <= ·)/\l.Nodup/\(∀i∈l,0<=i/\i<4)/\∀i,i∈l↔yG t x i:=by
 unfold xB BN;obtain⟨s,e,h1,h2,h3,h4⟩:=cS (f:=Be jr) (fun pre(s:Cd×List Int)=>s.1=ends t (x.take pre.length)/\s.2.Nodup/\(∀i∈s.2,0<=i/\i<4)/\∀i,i∈s.2↔∃k,0<k/\k<=pre.length/\(i=(ends t<|x.take k).2.2\/i=((ends t<|x.take k).2.2+2)%4)) (bq x) (t,[])
  ⟨by simp[ends],by simp,by simp,fun i=>⟨fun z=>by simp at z,fun⟨k,a,b,_⟩=>by simp at b;omega⟩⟩ (by
  intro pre a post s e ⟨h1,h2,h3,h4⟩;have ha:a∈bq x:=by rw[e];simp
  obtain⟨c,hc,rfl⟩:=dR ha;have hlen:pre.length<x.length:=by have:=congrArg H0 e;simp[bq]at this;omega
  have hget:x[pre.length]? =some c:=by
   have:=congrArg (fun l=>l[pre.length]?) e;simp only[bq,DU,Ea<|DQ _,Ic,GW]at this;cases z:x[pre.length]? with
   |none=>rw[z]at this;cases this
   |some d=>rw[z]at this;simp at this;rw[this]
  have htake:x.take (pre.length+1)=x.take pre.length++[c]:=by
   rw[List.take_add_one,hget];rfl
  have small:s.2.length<=4:=by
   have hsub:s.2 ⊆ [(0:Int),1,2,3]:=fun i hi=>by
    have:=h3 i hi;have:i=0\/i=1\/i=2\/i=3:=by omega
    simpa using this
   exact(Iq h2 hsub)
  unfold Be;rw[h1,lq<|hx c hc,DG];have hB:Card (behind (ends t<|x.take pre.length) c):=(h.ends _).behind c;generalize hbe:behind (ends t<|x.take pre.length) c=B at hB ⊢;obtain⟨l1,e1,m1,n1,k1⟩:=qR B.2.2 s.2 (by omega);obtain⟨l2,e2,m2,n2,k2⟩:=qR ((B.2.2+2)%4) l1 (by omega);have el:bB Ac [B.2.2,(B.2.2+2)%4] s.2=.ok l2:=by simp only[bB,e1,e2,DG]
  rw[el];have hE:ends t (x.take<|pre.length+1)=B:=by rw[htake,vK,hbe]
  refine⟨(B,l2),rfl,by simp[hE],n2<|n1 h2,fun i hi=>?_,fun i=>?_⟩
  ·rcases (m2 i).mp hi with z | z
   ·rcases (m1 i).mp z with z | z;·exact h3 i z
    ·rw[z];exact⟨hB.low,hB.high⟩
   ·rw[z];exact fg _
  ·rw[m2,m1,h4];constructor
   ·rintro ((⟨k,a,b,z⟩ | z) | z);·exact⟨k,a,by simp;omega,z⟩
    ·exact⟨pre.length+1,by omega,by simp,.inl (by rw[hE];exact z)⟩
    ·exact⟨pre.length+1,by omega,by simp,.inr (by rw[hE];exact z)⟩
   ·rintro ⟨k,a,b,z⟩;simp at b;rcases N1 k (pre.length+1)with q|q;·exact .inl (.inl ⟨k,a,by omega,z⟩)
    ·have:k=pre.length+1:=by omega
     subst this;rw[hE]at z;rcases z with z|z
     ·exact .inl (.inr z)
     ·exact .inr z)
 rw[e,DG];have hsub:s.2 ⊆ [(0:Int),1,2,3]:=fun i hi=>by
  have:=h3 i hi;have:i=0\/i=1\/i=2\/i=3:=by omega
  simpa using this
 have small:=(Iq h2 hsub)
 simp only[GY,List.length_nil]at small;rw[ur (by omega)];have pm:=iZ s.2;refine⟨_,rfl,l5 _,pm.nodup_iff.mpr h2,fun i hi=>h3 i<|pm.mem_iff.mp hi,fun i=>?_⟩;rw[pm.mem_iff,h4];unfold yG;simp[bq]
theorem zS(d:Int)(h0:0<=d)(h1:d<26):∃c,eR ([97,98,99,100,101,102,103,104,105,106,107,108,109,110,111,112,113,114,115,116,117,118,119,120,121,122]:Tx) d=.ok [c]/\97<=c/\c<=122:=by
 obtain⟨c,e,h⟩:=fI (x:=([97,98,99,100,101,102,103,104,105,106,107,108,109,110,111,112,113,114,115,116,117,118,119,120,121,122]:Tx)) (i:=d) h0 (by simp;omega) (by decide);have:∀c∈([97,98,99,100,101,102,103,104,105,106,107,108,109,110,111,112,113,114,115,116,117,118,119,120,121,122]:Tx),97<=c/\c<=122:=by decide
 exact⟨c,e,this c<|Ek h⟩
def xV(t:Cd)(i:Nat)(c:Nat):Cd:=(t.1,t.2.1.set i c,t.2.2)
theorem Card.dye{t:Cd}(h:Card t)(i:Nat){c:Nat}(h0:97<=c)(h1:c<=122):Card (xV t i c):=⟨h.lay,by simp[xV,h.four],fun x hx=>by
 rcases Jl hx with z|z;·exact h.col x z
 ·rw[z];exact⟨h0,h1⟩,h.low,h.high⟩
theorem xW{x:Tx}{i c:Nat}(h:i<x.length):x.take i++[c]++x.drop (i+1)=x.set i c:=by
 rw[List.set_eq_take_append_cons_drop,if_pos h];simp
theorem zT{t:Cd}(h:Card t){i:Nat}(hi:i<4)(c:Nat):((((rD t.2.1 none<|some (i:Int)).bind fun y83=>jc y83 [c]).bind fun y84=>(rD t.2.1 (some<|(i:Int)+(1:Int)) none).bind fun y85=>jc y84 y85).bind fun y86=>DK (t.1,y86,t.2.2))=.ok (xV t i c):=by
 have hl:t.2.1.length<=100000:=by rw[h.four];decide
 rw[qi hl,jR,DG,jh (by simp;have:=h.four;omega),DG,show(i:Int)+1=((i+1:Nat):Int)from rfl,qi hl,jS,DG,jh (by simp;have:=h.four;omega),DG,xW (by rw[h.four];exact hi)];rfl
theorem zU(cell:Int)(l:List Int){t:Cd}(h:Card t){i:Nat}(hi:i<4):∃t',Ad cell l (i:Int) t=.ok t'/\Card t'/\(t'=t\/((i:Int)∉l/\∃c,t'=xV t i c)):=by
 unfold Ad;by_cases z:(i:Int)∈l;·rw[if_neg (by simp[z])];exact⟨t,rfl,h,.inl rfl⟩
 ·rw[if_pos (by simp[z]),jQ (by omega) (by omega)];simp only[DG];obtain⟨c,e,h0,h1⟩:=zS ((cell/16+5*(i:Int))%26) (EN _ (by decide)) (Ew _ (by decide));rw[e];simp only[DG];have:=zT h hi c;rw[this];exact⟨_,rfl,h.dye i h0 h1,.inr ⟨z,c,rfl⟩⟩
theorem zV{t:Cd}(h:Card t){x:Tx}(hx:eY x)(hl:x.length<=900)(cell:Int):(xC t x cell).Ok fun r=>Card r.1/\eY r.2/\r.2.length=x.length:=by
 unfold xC BO;refine jj<|FT (P:=fun r:Cd×Tx=>Card r.1/\eY r.2/\r.2.length=x.length) (ny (fun _=>?_) fun _=>fK ⟨h,hx,rfl⟩) fun r⟨h1,h2,h3⟩=>?_
 ·rw[nZ h,DG,xR hx (by omega),DG];exact⟨h.flip,pG hx,by simp⟩
 ·rw[xQ h1,DG];have hr:=h1.roll<|cell/2%4;generalize qQ r.1 (cell/2%4)=R at hr ⊢;refine jj<|FT (P:=Card) (ny (fun _=>?_) fun _=>fK hr) fun c hc=>fK ⟨hc,h2,h3⟩;obtain⟨l,el,_⟩:=xT hr h2 (by omega);rw[el,DG,show fX (4:Int)=DK ((F2 4).map fun(i:Nat)=>(i:Int))from rfl,DG];obtain⟨s,es,hs⟩:=cS (f:=Ad cell l) (fun pre s=>Card s) ((F2 4).map fun(i:Nat)=>(i:Int)) R hr (by
   intro pre a post s e hs;have ha:a∈(F2 4).map fun(i:Nat)=>(i:Int):=by rw[e];simp
   obtain⟨i,hi,rfl⟩:=Ex.mp ha;obtain⟨t',e',h',_⟩:=zU cell l hs (Ht.mp hi);exact⟨t',e',h'⟩)
  rw[es];exact hs
theorem xX{s:List Int}(hs:s.length<=63)(most:Nat)(hm:most<=24):(wd s (most:Int)).Ok fun r=>Card r.1/\(∃n,n<=60/\Marks n r.2.1)/\0<=r.2.2/\r.2.2<4:=by
 unfold wd BP;obtain⟨c0,e0⟩:=j5 hs 0 (by decide);obtain⟨c1,e1⟩:=j5 hs 1 (by decide);obtain⟨c2,e2⟩:=j5 hs 2 (by decide);obtain⟨c3,e3⟩:=j5 hs 3 (by decide);obtain⟨c4,e4⟩:=j5 hs 4 (by decide);obtain⟨t,et,ht⟩:=qO c0;rw[show gT s 0=.ok c0 from e0,show gT s 1=.ok c1 from e1,show gT s 2=.ok c2 from e2,show gT s 3=.ok c3 from e3,show gT s 4=.ok c4 from e4];simp only[DG,et];rw[gy (by omega),DG];have z0:=EN c2 (show(most:Int)+1≠0 by omega);have z1:=Ew c2 (show(0:Int)<(most:Int)+1 by omega);refine jj (FT (P:=fun d=>0<=d/\d<=60) (ny (fun _=>fK ⟨by omega,by omega⟩) fun _=>fK ⟨z0,by omega⟩) fun d1 hd1=>?_);refine jj (FT (P:=fun d=>0<=d/\d<=60) (ny (fun _=>fK ⟨by omega,by omega⟩) fun _=>fK hd1) fun d2 hd2=>?_);obtain⟨n,rfl⟩:∃n:Nat,d2=(n:Int):=⟨d2.toNat,by omega⟩
 obtain⟨x,ex,hxl,hx⟩:=vH c1 n (by omega);rw[ex];simp only[DG,lu ht hx (show x.length<=10000 by omega)];have hw:=my ht x;have hpl:=pE t x;refine jj<|FT (P:=Marks n) (ny (fun z=>?_) fun _=>?_) fun l hl=>?_
 ·refine jj (FT (xP hw (by omega) (by omega) c3) fun r hr=>fK ?_);rw[hpl,hxl]at hr;exact hr
 ·refine jj (FT (vN hw (by omega) (c3/ 3) _) fun r hr=>fK ?_);rw[hpl,hxl]at hr;exact hr
 ·refine jj<|FT (P:=Card) (ny (fun _=>?_) fun _=>fK ht) fun t1 h1=>?_;·exact jj (jj ((zV ht hx (by omega) _).imp fun r hr=>fK<|fK hr.1))
  ·refine jj<|FT (P:=Card) (ny (fun _=>?_) fun _=>fK h1) fun t2 h2=>?_
   ·obtain⟨t',e',h'⟩:=qO<|c4/ 4/ 6;rw[e'];exact h'
   ·exact⟨h2,⟨n,by omega,hl⟩,(fg _).1,(fg _).2⟩
def standAt(t:Cd)(i:Int):Cd:=(t.1,t.2.1,(if t.1=[83]then t.2.2+i else t.2.2-i)%4)
def fits(p m:Pl):Bool:=(decide (m.1=[63])||decide (m.1=p.1))&&((decide (m.2.1=[63])||decide (m.2.1=p.2.1))&&(decide (m.2.2=[63])||decide (m.2.2=p.2.2)))
theorem Card.standAt{t:Cd}(h:Card t)(i:Int):Card (standAt t i):=⟨h.lay,h.four,h.col,(fg _).1,(fg _).2⟩
theorem zW{t:Cd}(h:Card t):iu t=.ok [cZ t t.2.2]:=by
 unfold iu qK;rw[show t.2.2%4=t.2.2 from Ls h.low h.high,cW h h.low h.high]
theorem sL{t:Cd}(h:Card t):xF t=.ok [cZ t ((t.2.2+2)%4)]:=by
 unfold xF BX;rw[cW h (fg _).1 (fg _).2]
theorem j6{t:Cd}{c:Nat}(h:isTurn c):pq t [c]=.ok (tw t c):=by
 unfold pq BS;have e:getD ([([102],1),([98],(-1)),([105],0)]:List (Tx×Int)) [c]=.ok (go c):=by rcases h with rfl|rfl|rfl<;>rfl
 rw[e,DG];by_cases z:t.1=[83]
 ·rw[if_pos (by simpa using z)];unfold tw;rw[if_pos z]
 ·rw[if_neg (by simpa using z)];unfold tw;rw[if_neg z]
theorem sM{i:Int}(h: -1<=i/\i<=1):getD ([(1,[115]),((-1),[122]),(0,[111])]:List (Int×Tx)) i=.ok [nV i]:=by
 have:i= -1\/i=0\/i=1:=by omega
 rcases this with rfl|rfl|rfl<;>rfl
theorem xY{t:Cd}(h:Card t){c:Nat}(hc:isTurn c):xG t [c]=.ok (place t c):=by
 unfold xG BY;simp only[zW h,sL h,j6 hc,DG,sM<|vI t c];rfl
theorem pH(t:Cd)(i:Int):xE t i=.ok (standAt t i):=by
 unfold xE BW standAt;by_cases z:t.1=[83]
 ·rw[if_pos (by simpa using z),if_pos z];rfl
 ·rw[if_neg (by simpa using z),if_neg z];rfl
theorem vR(a b:Tx):wg a b=.ok (decide (b=[63])||decide (b=a)):=by
 unfold wg BZ;by_cases z:b=[63]
 ·rw[if_pos (by simpa using z),decide_eq_true z];rfl
 ·rw[if_neg (by simpa using z),decide_eq_false z];rfl
theorem sN(p m:Pl):xH p m=.ok (fits p m):=by
 unfold xH C0;rw[eB (g:=fun a1:Tx×Tx=>decide (a1.2=[63])||decide (a1.2=a1.1)) (by show 3<=100000;decide)<|fun x _=>vR x.1 x.2,DG];congr 1;simp[fits]
theorem sO{t:Cd}(h:Card t)(s:Int×Int){c:Nat}(hc:isTurn c)(m:Pl):vB t s [c] m=.ok (fits (place (standAt t s.1) c) m):=by
 unfold vB C1;simp only[pH,DG,xY (h.standAt _) hc,sN]
def ai(t:Cd)(s:Int×Int)(c:Nat):Int×Int:=(s.1+tw t c,if c=105 then s.2+1 else 0)
theorem vS{t:Cd}(s:Int×Int){c:Nat}(hc:isTurn c):we t s [c]=.ok (ai t s c):=by
 unfold we BU ai;simp only[j6 hc,DG];by_cases z:c=105;·rw[if_pos (by simp[z]),if_pos z];rfl
 ·rw[if_neg (by simp[z]),if_neg z];rfl
def cX(s:Int×Int)(loose bound:Int):Bool:=decide (cP s.1<=bound)&&decide (s.2<=loose)
theorem lx(s:Int×Int)(loose bound:Int):nU s loose bound=.ok (cX s loose bound):=by
 unfold nU BR cX;by_cases z:cP s.1<=bound;·rw[if_pos (by simpa using z),decide_eq_true z];rfl
 ·rw[if_neg (by simpa using z),decide_eq_false z];rfl
def bZ(t:Cd)(loose bound:Int)(s:Int×Int)(c:Nat)(m:Pl):Bool:=cX (ai t s c) loose bound&&fits (place (standAt t (ai t s c).1) c) m
def ix(t:Cd)(loose bound:Int):Int×Int->List (Nat×Pl)->Bool
 |_,[]=>true
 |s,(c,m)::r=>bZ t loose bound s c m&&ix t loose bound (ai t s c) r
def j7(c:Nat):Bool:=decide<|isTurn c
theorem turnB_iff{c:Nat}:j7 c=true↔isTurn c:=decide_eq_true_iff
def mC(x:Tx)(n:Nat):Bool:=decide (x.length=n)&&x.all j7
theorem xZ(p m:Pl):cQ Bn ([p.1,p.2.1,p.2.2].zip [m.1,m.2.1,m.2.2]) ()=.ok (if fits p m then .nx ()else .rt false):=by
 rw[iS (g:=fun a:Tx×Tx=>if decide (a.2=[63])||decide (a.2=a.1)then none else some false) _ (fun a _=>by
  unfold Bn;by_cases z:a.2=[63]
  ·simp[z]
  ·by_cases y:a.2=a.1;·simp[z,y]
   ·simp[z,y])]
 congr 1;unfold fits;simp only[Je,List.zip_nil_right,IU,List.findSome?_nil];cases decide (m.1=[63])||decide (m.1=p.1)<;>cases decide (m.2.1=[63])||decide (m.2.1=p.2.1)<;>cases decide (m.2.2=[63])||decide (m.2.2=p.2.2)<;>rfl
theorem yb{t:Cd}(loose bound:Int)(s:Int×Int)(hs: -1000000<s.2/\s.2<1000000){c:Nat}(hc:isTurn c)(m:Pl):Ah fL t loose bound ([c],place (standAt t (ai t s c).1) c,m) s=.ok (if bZ t loose bound s c m then .nx (ai t s c)else .rt false):=by
 unfold Ah;simp only[kG hc,DG,xZ];rw[jQ (by omega) (by omega)];simp only[DG];have e:(s.2+1)*(if decide (([c]:Tx)=[105])=true then(1:Int)else 0)=(ai t s c).2:=by
  unfold ai;by_cases z:c=105;·simp[z]
  ·simp[z]
 rw[e];have e1:s.1+tw t c=(ai t s c).1:=rfl;rw[e1];unfold bZ cX;by_cases z:bound<cP (ai t s c).1
 ·have:¬cP (ai t s c).1<=bound:=by omega
  simp[z,this]
 ·have:cP (ai t s c).1<=bound:=by omega
  by_cases y:loose<(ai t s c).2
  ·have:¬(ai t s c).2<=loose:=by omega
   simp[*]
  ·have:(ai t s c).2<=loose:=by omega
   simp only[z,y,decide_false,ED,if_false,DG,decide_eq_true ‹cP (ai t s c).1<=bound›,decide_eq_true ‹(ai t s c).2<=loose›,Bool.and_self,Gd];cases fits (place (standAt t (ai t s c).1) c) m<;>rfl
theorem mD(t:Cd)(i:Int)(c:Nat):behind (standAt t i) c=standAt t (i+tw t c):=by
 unfold behind standAt tw;split;·simp only[MS,true_and];omega
 ·simp only[MS,true_and];omega
theorem zX{t:Cd}(h:Card t):standAt t 0=t:=by
 unfold standAt;have:=h.low;have:=h.high;rw[Int.add_zero,Int.sub_zero,ite_self,Ls h.low h.high]
theorem ly{t:Cd}(loose bound:Int):∀(x:Tx)(strip:List Pl),eY x->∀(s:Int×Int),0<=s.2->s.2+x.length<100000->cQ (Ah fL t loose bound) ((bq x).zip ((dj (standAt t s.1) x).zip strip)) s=.ok (if ix t loose bound s (x.zip strip)then .nx (((x.zip strip).foldl (fun s p=>ai t s p.1) s))else .rt false)
 | [],strip,_,s,_,_=>by simp[bq,cQ,ix]
 |c::r,[],_,s,_,_=>by simp[bq,cQ,ix]
 |c::r,m::ms,hx,s,h0,h1=>by
  have hc:=hx c (by simp);simp only[GY]at h1;have e:(bq (c::r)).zip ((dj (standAt t s.1) (c::r)).zip (m::ms))=([c],place (standAt t (ai t s c).1) c,m)::(bq r).zip ((dj (standAt t (ai t s c).1) r).zip ms):=by
   simp only[dj,mD];rfl
  rw[e];unfold cQ;rw[yb loose bound s ⟨by omega,by omega⟩ hc m,DG];have b2:(ai t s c).2=s.2+1\/(ai t s c).2=0:=by unfold ai;split<;>simp
  have ih:=ly (t:=t) loose bound r ms (fun d hd=>hx d (by simp[hd])) (ai t s c) (by omega) (by omega);simp only[Je,ix,IK];cases z:bZ t loose bound s c m with
  |false=>rfl
  |true=>simp only[if_true,u6,ih,Gd]
theorem sP{t:Cd}(h:Card t)(strip:List Pl)(loose bound:Int){x:Tx}(hl:x.length<=10000):xK t strip loose bound x=.ok (mC x strip.length&&ix t loose bound (0,0) (x.zip strip)):=by
 unfold xK Cg;rw[wU (by omega)];simp only[DG];by_cases z:x.length=strip.length
 ·rw[if_neg (by simp[z])];rw[iS (g:=fun t:Tx=>cond (j7<|t.headD 0) none<|some false) _ (fun t ht=>by
   obtain⟨c,hc,rfl⟩:=dR ht;unfold Cf;simp only[List.headD_cons];by_cases q:isTurn c;·rcases q with rfl|rfl|rfl<;>rfl
   ·rw[show j7 c=false from decide_eq_false q];have q1:c≠102:=fun e=>q (.inl e);have q2:c≠98:=fun e=>q (.inr (.inl e));have q3:c≠105:=fun e=>q (.inr (.inr e));simp[q1,q2,q3]),DG]
  cases hf:(bq x).findSome? fun t:Tx=>cond (j7<|t.headD 0) none (some false)with
  |some r=>
   obtain⟨t',ht',e⟩:=List.exists_of_findSome?_eq_some hf;obtain⟨c,hc,rfl⟩:=dR ht';have q:j7 c=false:=by
    cases z:j7 c with
    |false=>rfl
    |true=>simp[z]at e
   have:r=false:=by simpa [q] using e.symm
   subst this;have:mC x strip.length=false:=by
    unfold mC;rw[Bool.and_eq_false_iff];right;rw[List.all_eq_false];exact⟨c,hc,by simp[q]⟩
   simp[this]
  |none=>
   rw[List.findSome?_eq_none_iff]at hf;have hx:eY x:=fun c hc=>by
    have:=hf [c] (by unfold bq;exact Ex.mpr ⟨c,hc,rfl⟩);refine Jj fun q=>?_;simp[show j7 c=false from decide_eq_false q]at this
   have hr:mC x strip.length=true:=by
    unfold mC;simp only[GN,decide_eq_true_eq,G8];exact⟨z,fun c hc=>turnB_iff.mpr<|hx c hc⟩
   simp only[lu h hx hl,DG];have w:=ly (t:=t) loose bound x strip hx (0,0) (by decide) (by show(0:Int)+_<_;omega);rw[show standAt t ((0,0):Int×Int).1=t from zX h]at w;rw[w,DG,hr,Gd];cases ix t loose bound (0,0) (x.zip strip)<;>rfl
 ·rw[if_pos (by simp;omega)];have:mC x strip.length=false:=by unfold mC;simp[z]
  simp[this]
theorem absI_le{i b:Int}:cP i<=b↔ -b<=i/\i<=b:=by unfold cP;split<;>omega
def fN(t:Cd)(mk:Pl)(loose bound:Int)(s:Int×Int):List Nat:=[102,98,105].filter fun c=>bZ t loose bound s c mk
theorem mem_onw{t:Cd}{mk:Pl}{loose bound:Int}{s:Int×Int}{c:Nat}:c∈fN t mk loose bound s↔isTurn c/\bZ t loose bound s c mk=true:=by
 unfold fN;rw[K4];simp[isTurn]
theorem iU{t:Cd}(h:Card t)(mk:Pl)(loose bound:Int)(s:Int×Int):gA t mk loose bound s=.ok ((fN t mk loose bound s).map fun c=>([c],ai t s c)):=by
 unfold gA C2 fN;rw[eB (g:=fun a:Tx=>(a,ai t s<|a.headD 0)) (by show 3<=100000;decide) (fun a ha=>by
  obtain⟨c,hc,rfl⟩:=dR ha;have ht:isTurn c:=by simpa [isTurn] using hc
  rw[vS s ht];rfl),DG]
 rw[uv (g:=fun a:Tx×(Int×Int)=>if bZ t loose bound s (a.1.headD 0) mk=true then some a else none) (by show 3<=100000;decide) (fun a ha=>by
  obtain⟨x,hx,rfl⟩:=Ex.mp ha;obtain⟨c,hc,rfl⟩:=dR hx;have ht:isTurn c:=by simpa [isTurn] using hc
  show((nU (ai t s c) loose bound).bind fun y=>if y then vB t (ai t s c) [c] mk else DK false).bind (fun y=>if y then DK (some ([c],ai t s c))else DK none)=_;rw[lx,DG,sO h _ ht];show _=DK (if bZ t loose bound s c mk=true then some ([c],ai t s c)else none);unfold bZ;cases cX (ai t s c) loose bound<;>cases fits (place (standAt t (ai t s c).1) c) mk<;>rfl)]
 show DK (List.filterMap _ [([102],ai t s 102),([98],ai t s 98),([105],ai t s 105)])=_;cases h1:bZ t loose bound s 102 mk<;>cases h2:bZ t loose bound s 98 mk<;>cases h3:bZ t loose bound s 105 mk<;>simp[h1,h2,h3]
theorem pI:∀(n:Nat)(l:List Nat),l.Nodup->(∀x∈l,x<n)->l.length<=n
 |0,l,_,h=>by
  cases l with
  |nil=>simp
  |cons a l=>exact absurd (h a<|E5 ..) (by omega)
 |n+1,l,nd,h=>by
  by_cases z:n∈l
  ·have:=pI n (l.erase n) (nd.erase n) fun x hx=>by
    have h1:=h x<|Ij hx;have h2:x≠n:=fun e=>by subst e;exact(HK nd) hx
    omega
   rw[HL z]at this;omega
  ·have:=pI n l nd fun x hx=>by
    have h1:=h x hx;have h2:x≠n:=fun e=>z<|e▸hx;omega
   omega
theorem mE{α:Type}(pre:List α)(a:α):fc (pre++[a]) (-(1:Int))=.ok a:=by
 have e:sX (pre++[a]) (-1)=some a:=by
  unfold sX ixN;rw[if_neg (by decide),if_pos (by simp;omega)];show(pre++[a])[_]? =some a;have:(-1+((pre++[a]).length:Int)).toNat=pre.length:=by simp;omega
  rw[this];simp
 unfold fc;rw[e];rfl
def o6(p:Int×Int):Prop:= -60<=p.1/\p.1<=60/\0<=p.2/\p.2<=3
theorem iy{l:List (Int×Int)}(nd:l.Nodup)(h:∀p∈l,o6 p):l.length<=484:=by
 have nd2:(l.map fun p=>((p.1+60)*4+p.2).toNat).Nodup:=by
  rw[ES,GD];refine(ES.mp nd).imp_of_mem fun{a b}ha hb hne e=>hne ?_;have h1:=h a ha;have h2:=h b hb;unfold o6 at h1 h2;exact J9 (by omega) (by omega)
 have:=pI 484 _ nd2 fun x hx=>by
  obtain⟨p,hp,rfl⟩:=Ex.mp hx;have h1:=h p hp;unfold o6 at h1;omega
 simpa using this
theorem qS{t:Cd}{mk:Pl}{loose bound:Int}(hl:loose<=3)(hb:bound<=60){s:Int×Int}(hs:o6 s){c:Nat}(h:bZ t loose bound s c mk=true):o6 (ai t s c):=by
 unfold bZ cX at h;simp only[GN,decide_eq_true_eq]at h;have h1:=absI_le.mp h.1.1;have h2:=h.1.2;unfold o6 at hs ⊢;refine⟨by omega,by omega,?_,by omega⟩;unfold ai;dsimp only;split<;>omega
def Nx(t:Cd)(mk:Pl)(loose bound:Int)(l:List (Int×Int))(p:Int×Int):Prop:=∃s∈l,∃c,isTurn c/\bZ t loose bound s c mk=true/\p=ai t s c
theorem Nx.inb{t:Cd}{mk:Pl}{loose bound:Int}(hl:loose<=3)(hb:bound<=60){l:List (Int×Int)}(h:∀p∈l,o6 p){p:Int×Int}(n:Nx t mk loose bound l p):o6 p:=by
 obtain⟨s,hs,c,_,hm,rfl⟩:=n;exact qS hl hb (h s hs) hm
theorem zY{t:Cd}{mk:Pl}{loose bound:Int}{p:Int×Int}:¬Nx t mk loose bound [] p:=fun⟨s,hs,_⟩=>by cases hs
theorem yc{t:Cd}{mk:Pl}{loose bound:Int}{l:List (Int×Int)}{a p:Int×Int}:Nx t mk loose bound (l++[a]) p↔Nx t mk loose bound l p\/∃c∈fN t mk loose bound a,p=ai t a c:=by
 constructor
 ·rintro ⟨q,hq,c,hc,hm,rfl⟩;rcases EI.mp hq with hq|hq;·exact .inl ⟨q,hq,c,hc,hm,rfl⟩
  ·have:q=a:=by simpa using hq
   subst this;exact .inr ⟨c,mem_onw.mpr ⟨hc,hm⟩,rfl⟩
 ·rintro (⟨q,hq,z⟩ | ⟨c,hc,rfl⟩);·exact⟨q,by simp[hq],z⟩
  ·exact⟨a,by simp,c,(mem_onw.mp hc).1,(mem_onw.mp hc).2,rfl⟩
def mF(ks:List (Int×Int))(k:Int×Int):List (Int×Int):=if k∈ks then ks else k::ks
theorem addP_mem{ks:List (Int×Int)}{k p:Int×Int}:p∈mF ks k↔p∈ks\/p=k:=by
 unfold mF;split
 ·rename_i z;exact⟨.inl,fun h=>h.elim id fun e=>e▸z⟩
 ·rw[E1];exact⟨fun h=>h.symm,fun h=>h.symm⟩
theorem qT{ks:List (Int×Int)}(h:ks.Nodup)(k:Int×Int):(mF ks k).Nodup:=by
 unfold mF;split;·exact h
 ·rename_i z;exact G1.mpr ⟨z,h⟩
def sQ(l ks:List (Int×Int)):List (Int×Int):=l.foldl mF ks
theorem iz:∀(l ks:List (Int×Int)),ks.Nodup->(sQ l ks).Nodup/\∀p,p∈sQ l ks↔p∈ks\/p∈l
 | [],ks,h=>⟨h,fun p=>by simp[sQ]⟩
 |a::l,ks,h=>by
  have ih:=iz l (mF ks a)<|qT h a;refine⟨ih.1,fun p=>?_⟩;show p∈sQ l (mF ks a)↔_;rw[ih.2,addP_mem,E1,or_assoc]
def gU(t:Cd)(mk:Pl)(loose bound:Int)(l:List (Int×Int)):List (Int×Int):=eV<|sQ (l.flatMap fun s=>(fN t mk loose bound s).map (ai t s)) []
theorem o7{t:Cd}{mk:Pl}{loose bound:Int}{l:List (Int×Int)}{p:Int×Int}:p∈(l.flatMap fun s=>(fN t mk loose bound s).map (ai t s))↔Nx t mk loose bound l p:=by
 rw[List.mem_flatMap];constructor
 ·rintro ⟨s,hs,h⟩;obtain⟨c,hc,rfl⟩:=Ex.mp h;exact⟨s,hs,c,(mem_onw.mp hc).1,(mem_onw.mp hc).2,rfl⟩
 ·rintro ⟨s,hs,c,h1,h2,rfl⟩;exact⟨s,hs,Ex.mpr ⟨c,mem_onw.mpr ⟨h1,h2⟩,rfl⟩⟩
theorem mem_nxt{t:Cd}{mk:Pl}{loose bound:Int}{l:List (Int×Int)}{p:Int×Int}:p∈gU t mk loose bound l↔Nx t mk loose bound l p:=by
 unfold gU;rw[(dJ _).mem_iff,(iz _ [] HC).2,o7];simp
theorem zZ{t:Cd}{mk:Pl}{loose bound:Int}{l S:List (Int×Int)}(nd:S.Nodup)(h:∀p,p∈S↔Nx t mk loose bound l p):eV S=gU t mk loose bound l:=by
 refine jX ((dJ S).trans ?_)<|jW S;have g:=iz (l.flatMap fun s=>(fN t mk loose bound s).map (ai t s)) [] HC;exact(List.perm_ext_iff_of_nodup nd g.1).mpr fun p=>by rw[h,g.2,o7];simp
theorem vT(ys:List (Tx×(Int×Int)))(s0:List (Int×Int))(nd:s0.Nodup)(h0:∀p∈s0,o6 p)(hy:∀a∈ys,o6 a.2):
  bB (fun(a:Tx×(Int×Int))(s:List (Int×Int))=>rS s a.2) ys s0=.ok (sQ (ys.map (·.2)) s0):=by
 induction ys generalizing s0 with
 |nil=>rfl
 |cons a ys ih=>
  have hl:=iy nd h0;show(rS s0 a.2).bind _=_;rw[show rS s0 a.2=.ok (mF s0 a.2)from bj (by omega),DG];exact ih (mF s0 a.2) (qT nd _) (fun p hp=>by
   rcases addP_mem.mp hp with z|z;·exact h0 p z
   ·rw[z];exact hy a (E5 ..)) fun b hb=>hy b (E9 _ hb)
theorem vU{t:Cd}(h:Card t)(mk:Pl){loose bound:Int}(hl:loose<=3)(hb:bound<=60){states:List (Int×Int)}(hs:∀p∈states,o6 p):pA t mk loose bound states=.ok (gU t mk loose bound states):=by
 unfold pA C3;obtain⟨s,e,h1,h2⟩:=cS (f:=fun(a:Int×Int)(s:List (Int×Int))=>(gA t mk loose bound a).bind fun y=>bB (fun(a:Tx×(Int×Int))(s:List (Int×Int))=>rS s a.2) y s)
  (fun pre s=>s.Nodup/\∀p,p∈s↔Nx t mk loose bound pre p) states [] ⟨HC,fun p=>⟨fun z=>(by cases z),fun z=>absurd z zY⟩⟩ (by
  intro pre a post s e ⟨h1,h2⟩;have ha:o6 a:=hs a (by rw[e];simp);have hp:∀p∈pre,o6 p:=fun p hp=>hs p (by rw[e];simp[hp]);rw[iU h,DG,vT _ s h1 (fun p hq=>((h2 p).mp hq).inb hl hb hp) (fun b hb'=>by
   obtain⟨c,hc,rfl⟩:=Ex.mp hb';exact qS hl hb ha (mem_onw.mp hc).2)]
  have g:=iz (((fN t mk loose bound a).map fun c=>(([c]:Tx),ai t a c)).map (·.2)) s h1;refine⟨_,rfl,g.1,fun p=>?_⟩;rw[g.2,h2,yc,FX,Ex];exact or_congr Iff.rfl ⟨fun⟨c,h1,h2⟩=>⟨c,h1,h2.symm⟩,fun⟨c,h1,h2⟩=>⟨c,h1,h2.symm⟩⟩)
 have hlen:=iy h1 fun p hp=>((h2 p).mp hp).inb hl hb hs;rw[show bB _ states []=DK s from e,DG,show uC s=.ok (eV s)from bj (by omega),zZ h1 h2]
def aS(t:Cd)(loose bound:Int):List Pl->List (Int×Int)->List (List<|Int×Int)
 | [],cur=>[cur]
 |m::r,cur=>match cur with
  | []=>[[]]
  |a::q=>(a::q)::aS t loose bound r (gU t m loose bound (a::q))
theorem eZ{t:Cd}{loose bound:Int}(l:List Pl)(cur:List (Int×Int)):∃r,aS t loose bound l cur=cur::r:=by
 cases l with
 |nil=>exact⟨_,rfl⟩
 |cons m l=>cases cur with
  |nil=>exact⟨_,rfl⟩
  |cons a q=>exact⟨_,rfl⟩
theorem iA{t:Cd}(h:Card t){loose bound:Int}(hl:loose<=3)(hb:bound<=60):∀(strip:List Pl)(pre:List (List<|Int×Int))(cur:List (Int×Int)),pre.length+strip.length<=1000->(∀p∈cur,o6 p)->
  ∃r,cQ (yD pA t loose bound) strip (pre++[cur])=.ok r/\(r=.nx (pre++aS t loose bound strip cur)\/r=.rt (pre++aS t loose bound strip cur))
 | [],pre,cur,_,_=>⟨_,rfl,.inl rfl⟩
 |m::strip,pre,cur,hp,hc=>by
  simp only[GY]at hp;show ∃r,(yD pA t loose bound m<|pre++[cur]).bind _=.ok r/\_;cases cur with
  |nil=>
   refine⟨.rt<|pre++[[]],?_,.inr rfl⟩;unfold yD;rw[mE];rfl
  |cons a q=>
   have e1:yD pA t loose bound m (pre++[a::q])=.ok (.nx<|pre++[a::q]++[gU t m loose bound (a::q)]):=by
    unfold yD;rw[mE,DG,DG,if_neg (by simp),DG,vU h m hl hb hc,DG,eU (by simp;omega)];rfl
   rw[e1,DG];obtain⟨r,er,hr⟩:=iA h hl hb strip (pre++[a::q]) (gU t m loose bound (a::q)) (by simp;omega)<|fun p hp=>(mem_nxt.mp hp).inb hl hb hc;refine⟨r,er,?_⟩;have e2:pre++aS t loose bound (m::strip) (a::q)=pre++[a::q]++aS t loose bound strip (gU t m loose bound (a::q)):=by
    rw[Eb];rfl
   rw[e2];exact hr
theorem yd:∀p∈[((0:Int),(0:Int))],o6 p:=fun p hp=>by
 have:p=(0,0):=by simpa using hp
 subst this;exact⟨by decide,by decide,by decide,by decide⟩
theorem js{t:Cd}(h:Card t){loose bound:Int}(h0:0<=loose)(h1:0<=bound)(hl:loose<=3)(hb:bound<=60)(strip:List Pl)(hs:strip.length<=1000):iD t strip loose bound=.ok (aS t loose bound strip [(0,0)]):=by
 unfold iD C4;have w:cX (0,0) loose bound=true:=by
  unfold cX cP;simp;omega
 rw[lx,w,DG,if_pos rfl,DG,DG];obtain⟨r,er,hr⟩:=iA h hl hb strip [] [(0,0)] (by simpa using hs) yd;rw[show cQ _ strip [[((0:Int),(0:Int))]]=DK r from er,DG];rcases hr with rfl|rfl<;>rfl
def cnt(t:Cd)(loose bound:Int):List Pl->Int×Int->Int
 | [],_=>1
 |m::r,s=>((fN t m loose bound s).map fun c=>cnt t loose bound r<|ai t s c).sum
def vV(b:Bool)(i:Int):Int:=if b=true then i else 0
theorem lA{t:Cd}{loose bound:Int}{m:Pl}{r:List Pl}{s:Int×Int}:cnt t loose bound (m::r) s=vV (bZ t loose bound s 102 m) (cnt t loose bound r<|ai t s 102)+vV (bZ t loose bound s 98 m) (cnt t loose bound r<|ai t s 98)+vV (bZ t loose bound s 105 m) (cnt t loose bound r<|ai t s 105):=by
 show((fN t m loose bound s).map fun c=>cnt t loose bound r<|ai t s c).sum=_;unfold fN vV;cases h1:bZ t loose bound s 102 m<;>cases h2:bZ t loose bound s 98 m<;>cases h3:bZ t loose bound s 105 m<;>simp[h1,h2,h3]<;>omega
theorem iV{b:Bool}{i:Int}(h:0<=i):0<=vV b i:=by unfold vV;split<;>omega
theorem gj{t:Cd}{loose bound:Int}:∀(l:List Pl)(s:Int×Int),0<=cnt t loose bound l s
 | [],_=>by show(0:Int)<=1;decide
 |m::r,s=>by
  rw[lA];have h1:=iV (b:=bZ t loose bound s 102 m)<|gj (t:=t) (loose:=loose) (bound:=bound) r<|ai t s 102;have h2:=iV (b:=bZ t loose bound s 98 m)<|gj (t:=t) (loose:=loose) (bound:=bound) r<|ai t s 98;have h3:=iV (b:=bZ t loose bound s 105 m)<|gj (t:=t) (loose:=loose) (bound:=bound) r<|ai t s 105;omega
theorem cnt_pos{t:Cd}{loose bound:Int}{m:Pl}{r:List Pl}{s:Int×Int}:cnt t loose bound (m::r) s=0↔∀c,isTurn c->bZ t loose bound s c m=true->cnt t loose bound r (ai t s c)=0:=by
 rw[lA];have n1:=gj (t:=t) (loose:=loose) (bound:=bound) r<|ai t s 102;have n2:=gj (t:=t) (loose:=loose) (bound:=bound) r<|ai t s 98;have n3:=gj (t:=t) (loose:=loose) (bound:=bound) r<|ai t s 105;have h1:=iV (b:=bZ t loose bound s 102 m) n1;have h2:=iV (b:=bZ t loose bound s 98 m) n2;have h3:=iV (b:=bZ t loose bound s 105 m) n3;constructor
 ·intro h c hc hm;rcases hc with rfl|rfl|rfl
  ·have:vV (bZ t loose bound s 102 m) (cnt t loose bound r<|ai t s 102)=0:=by omega
   rw[hm]at this;exact this
  ·have:vV (bZ t loose bound s 98 m) (cnt t loose bound r<|ai t s 98)=0:=by omega
   rw[hm]at this;exact this
  ·have:vV (bZ t loose bound s 105 m) (cnt t loose bound r<|ai t s 105)=0:=by omega
   rw[hm]at this;exact this
 ·intro h;have key:∀c,isTurn c->vV (bZ t loose bound s c m) (cnt t loose bound r<|ai t s c)=0:=fun c hc=>by
   unfold vV;split;·rename_i z;exact h c hc z
   ·rfl
  rw[key 102<|.inl rfl,key 98<|.inr<|.inl rfl,key 105<|.inr<|.inr rfl];rfl
theorem kH{t:Cd}{loose bound:Int}(l:List Pl)(cur:List (Int×Int)):0<(aS t loose bound l cur).length:=by
 obtain⟨r,hr⟩:=eZ (t:=t) (loose:=loose) (bound:=bound) l cur;rw[hr];simp
theorem gB{t:Cd}{loose bound:Int}:∀(l:List Pl)(cur:List (Int×Int)),(aS t loose bound l cur).length<=l.length+1
 | [],cur=>DQ _
 |m::r,[]=>by show 1<=_;omega
 |m::r,a::q=>by
  have:=gB (t:=t) (loose:=loose) (bound:=bound) r<|gU t m loose bound (a::q);show(aS t loose bound r<|gU t m loose bound (a::q)).length+1<=r.length+1+1;omega
theorem iB{t:Cd}{loose bound:Int}:∀(l:List Pl)(cur:List (Int×Int))(i:Nat),i+1<(aS t loose bound l cur).length->∃m L,l[i]? =some m/\(aS t loose bound l cur)[i]? =some L/\(aS t loose bound l cur)[i+1]? =some (gU t m loose bound L)
 | [],cur,i,h=>absurd h (by show ¬i+1<1;omega)
 |m::r,[],i,h=>absurd h (by show ¬i+1<1;omega)
 |m::r,a::q,0,h=>by
  obtain⟨z,hz⟩:=eZ (t:=t) (loose:=loose) (bound:=bound) r<|gU t m loose bound (a::q);refine⟨m,a::q,rfl,rfl,?_⟩;show(aS t loose bound r<|gU t m loose bound (a::q))[0]? =_;rw[hz];rfl
 |m::r,a::q,i+1,h=>by
  have h':i+1<(aS t loose bound r<|gU t m loose bound (a::q)).length:=by
   have:i+1+1<(aS t loose bound r<|gU t m loose bound (a::q)).length+1:=h;omega
  exact iB r (gU t m loose bound (a::q)) i h'
theorem A0{t:Cd}{m:Pl}{loose bound:Int}{l:List (Int×Int)}:(gU t m loose bound l).Nodup:=(dJ _).nodup_iff.mpr (iz _ [] HC).1
theorem gC{t:Cd}{loose bound:Int}(hl:loose<=3)(hb:bound<=60):∀(l:List Pl)(cur:List (Int×Int)),cur.Nodup->(∀p∈cur,o6 p)->∀L∈aS t loose bound l cur,L.Nodup/\∀p∈L,o6 p
 | [],cur,h1,h2,L,hL=>by
  have:L=cur:=by simpa [aS] using hL
  rw[this];exact⟨h1,h2⟩
 |m::r,[],h1,h2,L,hL=>by
  have:L=[]:=by simpa [aS] using hL
  rw[this];exact⟨h1,h2⟩
 |m::r,a::q,h1,h2,L,hL=>by
  rcases E1.mp (show L∈(a::q)::aS t loose bound r (gU t m loose bound (a::q))from hL)with rfl|hL;·exact⟨h1,h2⟩
  ·exact gC hl hb r _ A0 (fun p hp=>(mem_nxt.mp hp).inb hl hb h2) L hL
theorem eH{t:Cd}{loose bound:Int}:∀(l:List Pl)(cur:List (Int×Int)),∃L,(aS t loose bound l cur)[(aS t loose bound l cur).length-1]? =some L/\(L=[]\/(aS t loose bound l cur).length=l.length+1)/\(L=[]↔∀s∈cur,cnt t loose bound l s=0)
 | [],cur=>⟨cur,rfl, .inr rfl,by
  constructor
  ·intro h;rw[h];exact fun s hs=>by cases hs
  ·intro h;cases cur with
   |nil=>rfl
   |cons a q=>exact absurd (h a (E5 ..)) (by show ¬(1:Int)=0;decide)⟩
 |m::r,[]=>⟨[],rfl,.inl rfl,by simp⟩
 |m::r,a::q=>by
  obtain⟨L,h1,h2,h3⟩:=eH (t:=t) (loose:=loose) (bound:=bound) r<|gU t m loose bound (a::q);have hp:=kH (t:=t) (loose:=loose) (bound:=bound) r<|gU t m loose bound (a::q);refine⟨L,?_,?_,?_⟩
  ·show((a::q)::aS t loose bound r (gU t m loose bound (a::q)))[(aS t loose bound r<|gU t m loose bound (a::q)).length+1- 1]? =some L;rw[Jf];have e:(aS t loose bound r<|gU t m loose bound (a::q)).length=(aS t loose bound r<|gU t m loose bound (a::q)).length-1+1:=by omega
   rw[e,GV];exact h1
  ·refine h2.imp id fun h=>?_;show(aS t loose bound r<|gU t m loose bound (a::q)).length+1=_;rw[h];rfl
  ·rw[h3];constructor
   ·intro h s hs;exact cnt_pos.mpr fun c hc hm=>h _<|mem_nxt.mpr ⟨s,hs,c,hc,hm,rfl⟩
   ·intro h p hp;obtain⟨s,hs,c,hc,hm,rfl⟩:=mem_nxt.mp hp;exact cnt_pos.mp (h s hs) c hc hm
theorem kI{α:Type}{xs:List α}{a:α}(h:xs[xs.length-1]? =some a):fc xs (-(1:Int))=.ok a:=by
 have hl:xs.length-1<xs.length:=(DR.mp h).1;have e:sX xs (-1)=some a:=by
  unfold sX ixN;rw[if_neg (by decide),if_pos (by omega)];show xs[_]? =some a;have:(-1+(xs.length:Int)).toNat=xs.length-1:=by omega
  rw[this];exact h
 unfold fc;rw[e];rfl
theorem dN{α:Type}{xs:List α}{i:Nat}{a:α}(h:xs[i]? =some a):fc xs (i:Int)=.ok a:=by
 unfold fc;rw[q0 h];rfl
theorem vW{α:Type}{kvs:List ((Int×Int)×α)}{k:Int×Int}{a:α}(h:∀q∈kvs,q.1≠k):gS kvs k a=kvs++[(k,a)]:=by
 unfold gS;rw[if_neg];intro z;obtain⟨q,h1,h2⟩:=JP.mp z;exact h q h1 (by simpa using h2)
theorem mG{α:Type}{f:Int×Int->List ((Int×Int)×α)->Res (List<|(Int×Int)×α)}{g:Int×Int->α}{ks:List (Int×Int)}(nd:ks.Nodup)(hl:ks.length<=900)(h:∀k∈ks,∀s:List ((Int×Int)×α),f k s=fv s k (g k)):bB f ks []=.ok (ks.map fun k=>(k,g k)):=by
 obtain⟨s,e,h1⟩:=cS (f:=f) (fun pre s=>s=pre.map fun k=>(k,g k)) ks [] rfl (by
  intro pre a post s e h1;have hp:pre.length<=900:=by rw[e]at hl;simp at hl;omega
  rw[h a (by rw[e];simp),h1];refine⟨_,bj (by rw[El];omega),?_⟩;rw[vW<|fun q hq=>?_];·simp
  ·obtain⟨k,hk,rfl⟩:=Ex.mp hq;intro z;have z:k=a:=z;subst z;rw[e,Jw]at nd;exact nd.2.2 k hk k (E5 ..) rfl)
 rw[e,h1]
theorem o9{α:Type}{g:Int×Int->α}{k:Int×Int}:∀{ks:List (Int×Int)},k∈ks->look (ks.map fun k=>(k,g k)) k=some (g k)
 |a::ks,h=>by
  by_cases e:a=k;·subst e;simp[look,FP]
  ·have:k∈ks:=by
    rcases E1.mp h with z|z;·exact absurd z.symm e
    ·exact z
   have ih:=o9 (g:=g) this;simp only[look,EY,FP,decide_eq_false e]at ih ⊢;exact ih
theorem kJ{α:Type}{g:Int×Int->α}{k:Int×Int}{ks:List (Int×Int)}(h:k∈ks):getD (ks.map fun k=>(k,g k)) k=.ok (g k):=by
 unfold getD;rw[o9 h];rfl
def dc(t:Cd)(strip:List Pl)(loose bound:Int)(i:Nat):List ((Int×Int)×Int):=((aS t loose bound strip [(0,0)])[i]?.getD []).map fun s=>(s,cnt t loose bound (strip.drop i) s)
theorem vX{t:Cd}(h:Card t){strip:List Pl}{loose bound:Int}(hl:loose<=3)(hb:bound<=60){i:Nat}{m:Pl}{L:List (Int×Int)}(h1:strip[i]? =some m)(h2:(aS t loose bound strip [(0,0)])[i]? =some L)(h3:(aS t loose bound strip [(0,0)])[i+1]? =some (gU t m loose bound L))
  {pre:List (List<|(Int×Int)×Int)} (hp:pre.length<=900):Ae gA t strip loose bound (aS t loose bound strip [(0,0)]) (i:Int) (pre++[dc t strip loose bound (i+1)])=.ok (pre++[dc t strip loose bound (i+1)]++[dc t strip loose bound i]):=by
 have all:=gC (t:=t) hl hb strip [(0,0)] (by simp) yd L<|Ek h2;have len:=iy all.1 all.2;have ed:dc t strip loose bound (i+1)=(gU t m loose bound L).map fun s=>(s,cnt t loose bound (strip.drop<|i+1) s):=by unfold dc;rw[h3];rfl
 have ei:dc t strip loose bound i=L.map fun s=>(s,cnt t loose bound (strip.drop i) s):=by unfold dc;rw[h2];rfl
 have dr:strip.drop i=m::strip.drop (i+1):=by
  obtain⟨hi,e⟩:=DR.mp h1;rw[FF hi,e]
 unfold Ae;rw[mE,DG,dN h2,DG];rw[mG (g:=fun s=>(fN t m loose bound s).map fun c=>(([c]:Tx),ai t s c)) all.1 (by omega) (fun k hk s=>by
  rw[dN h1,DG,iU h,DG]),DG,FX]
 rw[show NS ((fun x:(Int×Int)×List (Tx×(Int×Int))=>x.1)∘fun k=>(k,(fN t m loose bound k).map fun c=>(([c]:Tx),ai t k c))) L=L from by
  rw[show((fun x:(Int×Int)×List (Tx×(Int×Int))=>x.1)∘fun k=>(k,(fN t m loose bound k).map fun c=>(([c]:Tx),ai t k c)))=id from rfl,Nj]]
 rw[mG (g:=fun s=>cnt t loose bound (strip.drop i) s) all.1 (by omega) (fun k hk s=>by
  rw[kJ hk,DG,eB (g:=fun a:Tx×(Int×Int)=>cnt t loose bound (strip.drop<|i+1) a.2) (by rw[El];unfold fN cap;refine FO (Kl _ _) (by decide)) (fun a ha=>by
   obtain⟨c,hc,rfl⟩:=Ex.mp ha;rw[ed];exact kJ (mem_nxt.mpr ⟨k,hk,c,(mem_onw.mp hc).1,(mem_onw.mp hc).2,rfl⟩)),DG,DG,FX]
  congr 1;rw[dr];rfl),DG,eU (by simp;omega),DG,ei]
theorem vY{t:Cd}(h:Card t){strip:List Pl}(hs:strip.length<=60){loose bound:Int}(h0:0<=loose)(hl:loose<=3)(hb0:0<=bound)(hb:bound<=60):∃D,xI t strip loose bound=.ok D/\D.length=(aS t loose bound strip [(0,0)]).length/\∀i,i<D.length->D[i]? =some (dc t strip loose bound i):=by
 unfold xI C6;rw[js h h0 hb0 hl hb strip (by omega),DG];obtain⟨L,hL,hE,_⟩:=eH (t:=t) (loose:=loose) (bound:=bound) strip [(0,0)];have hpos:=kH (t:=t) (loose:=loose) (bound:=bound) strip [(0,0)];have hlen:=gB (t:=t) (loose:=loose) (bound:=bound) strip [(0,0)];have all:=gC (t:=t) hl hb strip [(0,0)] (by simp) yd L<|Ek hL;have len:=iy all.1 all.2;obtain⟨k,hk⟩:∃k,(aS t loose bound strip [(0,0)]).length=k+1:=⟨_,(Nat.sub_add_cancel hpos).symm⟩
 rw[hk,Jf]at hL;have e1:bB (fun(a:Int×Int)(s:List ((Int×Int)×Int))=>fv s a (1:Int)) L []=.ok (dc t strip loose bound k):=by
  rw[mG (g:=fun _=>(1:Int)) all.1 (by omega)<|fun _ _ _=>rfl];unfold dc;rw[hL];show DK (L.map _)=DK (L.map _);rcases hE with rfl|hE
  ·rfl
  ·have:k=strip.length:=by omega
   subst this;rw[GS];rfl
 rw[kI (a:=L) (by rw[hk];exact hL),DG,e1,DG,DG];have er:mw (((aS t loose bound strip [(0,0)]).length:Int)-1)=.ok ((F2 k).map fun(i:Nat)=>(i:Int)).reverse:=by
  rw[hk];have e:((k+1:Nat):Int)-1=(k:Int):=by omega
  rw[e];unfold mw fe;rw[bj ⟨by omega,by omega⟩];rfl
 rw[er,DG];obtain⟨s,es,h1,h2⟩:=cS (f:=Ae gA t strip loose bound<|aS t loose bound strip [(0,0)]) (fun pre s=>s.length=pre.length+1/\∀j,j<=pre.length->s[j]? =some (dc t strip loose bound<|k-j)) ((F2 k).map fun(i:Nat)=>(i:Int)).reverse [dc t strip loose bound k] ⟨rfl,fun j hj=>by
  have:j=0:=Nat.le_zero.mp hj;subst this;rfl⟩ (by
  intro pre a post s e ⟨h1,h2⟩;have hlen2:pre.length<k:=by have:=congrArg H0 e;simp at this;omega
  have ha:a=((k-1-pre.length:Nat):Int):=by
   have:((F2 k).map fun(i:Nat)=>(i:Int)).reverse[pre.length]? =some a:=by rw[e];simp
   rw[Gx (by simpa using hlen2),El,Jt,DU,Gm (by omega)]at this;exact(Es this).symm
  obtain⟨m,L',q1,q2,q3⟩:=iB (t:=t) (loose:=loose) (bound:=bound) strip [(0,0)] (k-1-pre.length) (by omega);have hs2:s=s.dropLast++[dc t strip loose bound (k-1-pre.length+1)]:=by
   have hne:s≠[]:=fun z=>by rw[z]at h1;simp at h1
   have hl2:=h2 pre.length<|DQ _;have e3:k-1-pre.length+1=k-pre.length:=by omega
   rw[e3];have:s.getLast hne=dc t strip loose bound (k-pre.length):=by
    have h5:=List.getLast?_eq_getElem? (l:=s);rw[h1,Jf,hl2,List.getLast?_eq_some_getLast hne]at h5;exact Es h5
   rw[<-this];exact(List.dropLast_concat_getLast hne).symm
  rw[ha,hs2,vX h hl hb q1 q2 q3 (by rw[List.length_dropLast];omega),<-hs2];refine⟨_,rfl,by simp[h1],fun j hj=>?_⟩;rw[G5,Kb]at hj;by_cases z:j<=pre.length
  ·rw[Ef (by omega)];exact h2 j z
  ·have ej:j=pre.length+1:=by omega
   subst ej;rw[Ea (by omega),h1,Ic];show some _=some _;congr 2;omega)
 rw[es,DG];have hsl:s.length=k+1:=by simpa using h1
 refine⟨_,rfl,by rw[IT,hk];exact hsl,fun i hi=>?_⟩;rw[IT]at hi;rw[Gx hi,h2 _ (by simp;omega)];congr 2;omega
theorem yH{t:Cd}(h:Card t){strip:List Pl}(hs:strip.length<=60){loose bound:Int}(h0:0<=loose)(hl:loose<=3)(hb0:0<=bound)(hb:bound<=60):∃r L,iD t strip loose bound=.ok r/\fc r (-(1:Int))=.ok L/\(L.isEmpty=true↔cnt t loose bound strip (0,0)=0):=by
 obtain⟨L,hL,_,hE⟩:=eH (t:=t) (loose:=loose) (bound:=bound) strip [(0,0)];refine⟨_,L,js h h0 hb0 hl hb strip (by omega),kI hL,?_⟩;rw[List.isEmpty_iff,hE];simp
theorem lB{c:Int->Res Bool}{f:Int->Res Int}{P:Int->Prop}{N:Int}(hc:∀b,0<=b->b<=N->∃r,c b=.ok r/\(r=true↔¬P b))(hf:∀b,f b=.ok (b+1)):∀(m:Nat)(fuel:Nat)(b:Int),0<=b->m<fuel->(∃d,b<=d/\d<=b+m/\d<=N/\P d)->(eD c f fuel b).Ok fun d=>b<=d/\P d/\∀e,b<=e->e<d->¬P e
 |m,0,b,_,h,_=>absurd h (by omega)
 |m,fuel+1,b,h0,hm,⟨d,d1,d2,d4,d3⟩=>by
  obtain⟨r,er,hr⟩:=hc b h0 (by omega);unfold eD;rw[er,DG];cases r with
  |false=>exact⟨Kz _,Jx.mp fun z=>JQ<|hr.mpr z,fun e h1 h2=>absurd h1 (by omega)⟩
  |true=>
   have np:=hr.mp rfl;rw[if_pos rfl,hf,DG];have hd:d≠b:=fun z=>np<|z▸d3;cases m with
   |zero=>exact absurd d2 (by omega)
   |succ m=>
    refine(lB hc hf m fuel (b+1) (by omega) (by omega) ⟨d,by omega,by omega,d4,d3⟩).imp fun x zz=>?_;obtain⟨h1,h2,h3⟩:=zz;refine⟨by omega,h2,fun e h4 h5=>?_⟩;by_cases z:e=b;·rw[z];exact np
    ·exact h3 e (by omega) h5
theorem A1{t:Cd}(h:Card t){strip:List Pl}(hs:strip.length<=60){loose:Int}(h0:0<=loose)(hl:loose<=3):∃r,wj t strip loose=.ok r/\((r=none/\cnt t loose strip.length strip (0,0)=0)\/∃d,r=some d/\0<=d/\d<=strip.length/\cnt t loose d strip (0,0)≠0/\∀e,0<=e->e<d->cnt t loose e strip (0,0)=0):=by
 unfold wj C5;obtain⟨r,L,e1,e2,e3⟩:=yH h hs h0 hl (show(0:Int)<=strip.length by omega) (by omega);rw[e1,DG,e2,DG,DG];by_cases z:cnt t loose strip.length strip (0,0)=0
 ·rw[if_pos<|e3.mpr z];exact⟨_,rfl,.inl ⟨rfl,z⟩⟩
 ·rw[if_neg<|fun y=>z<|e3.mp y];obtain⟨d,ed,d1,d2,d3⟩:=(lB (N:=60) (c:=Bf iD t strip loose) (f:=Bg) (P:=fun b=>cnt t loose b strip (0,0)≠0) (fun b hb0 hb1=>by
   obtain⟨r,L,e1,e2,e3⟩:=yH h hs h0 hl hb0 hb1;unfold Bf;rw[e1,DG,e2,DG];exact⟨_,rfl,by rw[e3,Jx]⟩) (fun b=>by unfold Bg;rfl) strip.length cap 0 (by decide) (by show strip.length<100000;omega) ⟨strip.length,by omega,by omega,by omega,z⟩).ex
  rw[ed,DG];refine⟨_,rfl,.inr ⟨d,rfl,d1,?_,d2,fun e h4 h5=>Jx.mp<|d3 e h4 h5⟩⟩;by_cases y:(d:Int)<=strip.length;·exact y
  ·exact absurd z (d3 strip.length (by omega) (by omega))
theorem j8{moves:List (Tx×(Int×Int))}{counts:List ((Int×Int)×Int)}{f:Tx×(Int×Int)->Int}(hf:∀a∈moves,getD counts a.2=.ok (f a)):∀(post pre:List (Tx×(Int×Int)))(n:Int)(fuel:Nat),moves=pre++post->0<=n->n<(post.map f).sum->post.length<fuel->
  ∃p a q n',post=p++a::q/\eD (Af moves counts) (Ag moves counts) fuel (n,(pre.length:Int))=.ok (n',((pre.length+p.length:Nat):Int))/\n=(p.map f).sum+n'/\0<=n'/\n'<f a
 | [],pre,n,fuel,_,h0,h1,_=>absurd h1 (by simp;omega)
 |a::post,pre,n,0,_,_,_,h=>absurd h (by omega)
 |a::post,pre,n,fuel+1,hm,h0,h1,hl=>by
  have ha:moves[pre.length]? =some a:=by rw[hm];simp
  have hf':=hf a (by rw[hm];simp);have e1:Af moves counts (n,(pre.length:Int))=.ok (decide<|f a<=n):=by
   unfold Af;rw[dN ha,DG,DG,hf',DG]
  unfold eD;rw[e1,DG];by_cases z:f a<=n
  ·have e2:Ag moves counts (n,(pre.length:Int))=.ok (n-f a,(((pre++[a]).length:Nat):Int)):=by
    unfold Ag;rw[dN ha,DG,DG,hf',DG];simp
   rw[if_pos<|decide_eq_true z,e2,DG];rw[EY,JI]at h1;obtain⟨p,b,q,n',g1,g2,g3,g4,g5⟩:=j8 hf post (pre++[a]) (n-f a) fuel (by rw[hm];simp) (by omega) (by omega) (by simp at hl;omega);refine⟨a::p,b,q,n',by rw[g1];rfl,?_,by rw[EY,JI];omega,g4,g5⟩;rw[g2];congr 2;simp;omega
  ·rw[if_neg (by simpa using z)];exact⟨[],a,post,n,rfl,rfl,by simp,h0,by omega⟩
def IsWay(t:Cd)(loose bound:Int):List Pl->Int×Int->Int->Tx->Prop
 | [],_,n,x=>x=[]/\n=0
 |m::r,s,n,x=>∃p c q n' y,fN t m loose bound s=p++c::q/\x=c::y/\n=(p.map fun c=>cnt t loose bound r<|ai t s c).sum+n'/\0<=n'/\n'<cnt t loose bound r (ai t s c)/\IsWay t loose bound r (ai t s c) n' y
theorem sR{t:Cd}{m:Pl}{loose bound:Int}{s:Int×Int}{r:List Pl}{L:List (Int×Int)}(hL:∀c∈fN t m loose bound s,ai t s c∈L){n:Int}(h0:0<=n)(h1:n<cnt t loose bound (m::r) s):
  ∃p c q n',fN t m loose bound s=p++c::q/\pD ((fN t m loose bound s).map fun c=>([c],ai t s c)) (L.map fun s=>(s,cnt t loose bound r s)) n=.ok ([c],ai t s c,n')/\n=(p.map fun c=>cnt t loose bound r<|ai t s c).sum+n'/\0<=n'/\n'<cnt t loose bound r (ai t s c):=by
 unfold pD C7;have hs:((fN t m loose bound s).map fun c=>(([c]:Tx),ai t s c)).map (fun a=>cnt t loose bound r a.2)=(fN t m loose bound s).map fun c=>cnt t loose bound r (ai t s c):=by rw[FX];rfl
 obtain⟨p,a,q,n',g1,g2,g3,g4,g5⟩:=j8 (moves:=(fN t m loose bound s).map fun c=>(([c]:Tx),ai t s c)) (counts:=L.map fun s=>(s,cnt t loose bound r s)) (f:=fun a=>cnt t loose bound r a.2) (fun a ha=>by
  obtain⟨c,hc,rfl⟩:=Ex.mp ha;exact kJ (hL c hc)) _ [] n cap rfl h0 (by rw[hs];exact h1) (by rw[El];unfold fN cap;exact Nat.lt_of_le_of_lt (Kl _ _) (by decide))
 obtain⟨P,R,e1,e2,e3⟩:=List.map_eq_append_iff.mp g1;obtain⟨c,Q,e4,e5,e6⟩:=List.map_eq_cons_iff.mp e3;subst e2 e5;refine⟨P,c,Q,n',by rw[e1,e4],?_,?_,g4,g5⟩
 ·have e7:((fN t m loose bound s).map fun c=>(([c]:Tx),ai t s c))[(([]:List (Tx×(Int×Int))).length+(P.map fun c=>(([c]:Tx),ai t s c)).length:Nat)]? =some ([c],ai t s c):=by
   rw[e1,e4];simp
  rw[show((0:Int))=(([]:List (Tx×(Int×Int))).length:Int)from rfl,g2,DG,dN e7,DG]
 ·rw[g3,FX];rfl
def eL{α:Type}(i:Nat):List α->List (Int×α)
 | []=>[]
 |a::r=>((i:Int),a)::eL (i+1) r
theorem vZ{α:Type}:∀(i:Nat)(xs:List α),(eL i xs).length=xs.length
 |_,[]=>rfl
 |i,a::r=>by show(eL (i+1) r).length+1=r.length+1;rw[vZ]
theorem yI{α:Type}:∀(i:Nat)(xs:List α)(j:Nat)(h:j<xs.length),(eL i xs)[j]? =some (((i+j:Nat):Int),xs[j])
 |i,a::r,0,_=>rfl
 |i,a::r,j+1,h=>by
  show(eL (i+1) r)[j]? =_;rw[yI (i+1) r j (by simpa using h)];show some (((i+1+j:Nat):Int),r[j]'(by simpa using h))=some (((i+(j+1):Nat):Int),r[j]'(by simpa using h));rw[show i+1+j=i+(j+1) by omega]
theorem ye{α:Type}(xs:List α):gJ xs=eL 0 xs:=by
 refine FJ fun j=>?_;by_cases h:j<xs.length
 ·rw[yI 0 xs j h];unfold gJ;rw[Kd,Gm h,DO h,Gp]
 ·rw[F0 (show(gJ xs).length<=j by simp[gJ];omega),F0 (by rw[vZ];omega)]
theorem oa{t:Cd}(h:Card t){strip:List Pl}{loose bound:Int}(hw:(aS t loose bound strip [(0,0)]).length=strip.length+1){D:List (List<|(Int×Int)×Int)}(hl:D.length=strip.length+1)(hD:∀i,i<D.length->D[i]? =some (dc t strip loose bound i)):∀(post:List Pl)(i:Nat)(s:Int×Int)(n:Int)(x:Tx),strip.drop i=post->i<=strip.length->s∈(aS t loose bound strip [(0,0)])[i]?.getD []->0<=n->n<cnt t loose bound post s->x.length+post.length<=1000->
  ∃s' n' y,bB (eF pD gA t loose bound D) (eL i post) (s,n,x)=.ok (s',n',x++y)/\IsWay t loose bound post s n y
 | [],i,s,n,x,_,_,_,h0,h1,_=>⟨s,n,[],by rw [Gi];rfl,rfl,by
  have:n<1:=h1;omega⟩
 |m::r,i,s,n,x,hd,hi,hs,h0,h1,hx=>by
  have hi':i<strip.length:=by
   rcases N1 i strip.length with z|z;·exact z
   ·rw[Ib z]at hd;cases hd
  rw[FF hi']at hd;obtain⟨hd1,hd2⟩:=List.cons.inj hd;obtain⟨m',L,q1,q2,q3⟩:=iB (t:=t) (loose:=loose) (bound:=bound) strip [(0,0)] i (by omega);have hm:m'=m:=by rw[DO hi',hd1]at q1;exact(Es q1).symm
  subst hm;rw[q2]at hs;have hs:s∈L:=hs;have hnx:∀c∈fN t m' loose bound s,ai t s c∈gU t m' loose bound L:=fun c hc=>mem_nxt.mpr ⟨s,hs,c,(mem_onw.mp hc).1,(mem_onw.mp hc).2,rfl⟩;obtain⟨p,c,q,n',g1,g2,g3,g4,g5⟩:=sR (r:=r) hnx h0 h1;have e1:eF pD gA t loose bound D ((i:Int),m') (s,n,x)=.ok (ai t s c,n',x++[c]):=by
   unfold eF;dsimp only;rw[iU h,DG,show(i:Int)+1=((i+1:Nat):Int) by omega,dN (hD (i+1) (by omega)),DG];rw[show dc t strip loose bound (i+1)=(gU t m' loose bound L).map fun s=>(s,cnt t loose bound r s) by unfold dc;rw[q3,hd2];rfl,g2,DG,jh (by simp at hx ⊢;omega),DG]
  show ∃s' n' y,(eF pD gA t loose bound D ((i:Int),m') (s,n,x)).bind _=_/\_;rw[e1,DG];obtain⟨s',n'',y,f1,f2⟩:=oa h hw hl hD r (i+1) (ai t s c) n' (x++[c]) hd2 (by omega) (by rw[q3];exact hnx c (by rw[g1];simp)) g4 g5 (by simp at hx ⊢;omega);exact⟨s',n'',c::y,by rw[f1];simp,p,c,q,n',y,g1,rfl,g3,g4,g5,f2⟩
theorem pJ{t:Cd}{loose bound:Int}{strip:List Pl}(h:cnt t loose bound strip (0,0)≠0):(aS t loose bound strip [(0,0)]).length=strip.length+1:=by
 obtain⟨L,_,h2,h3⟩:=eH (t:=t) (loose:=loose) (bound:=bound) strip [(0,0)];rcases h2 with z|z;·exact absurd (h3.mp z (0,0)<|E5 ..) h
 ·exact z
theorem A2{t:Cd}(h:Card t){strip:List Pl}(hs:strip.length<=60){loose bound:Int}(h0:0<=loose)(hl:loose<=3)(hb0:0<=bound)(hb:bound<=60){n:Int}(n0:0<=n)(n1:n<cnt t loose bound strip (0,0)):∃x,gL t strip loose bound n=.ok x/\IsWay t loose bound strip (0,0) n x:=by
 unfold gL qL;obtain⟨D,e,h1,h2⟩:=vY h hs h0 hl hb0 hb;have hw:=pJ (t:=t) (loose:=loose) (bound:=bound) (strip:=strip) (by omega);obtain⟨r,hr⟩:=eZ (t:=t) (loose:=loose) (bound:=bound) strip [(0,0)];have ez:sx (dc t strip loose bound 0) ((0:Int),(0:Int)) (0:Int)=cnt t loose bound strip (0,0):=by
  unfold dc sx;rw[hr];rfl
 rw[e,DG,if_neg (by simpa using n0),show fc D (0:Int)=.ok (dc t strip loose bound 0)from dN (i:=0) (h2 0 (by omega)),DG,DG,ez,DG,if_neg (by simp;omega)];obtain⟨s',n',y,f1,f2⟩:=oa h hw (by omega) h2 strip 0 (0,0) n [] rfl (by omega) (by rw[hr];simp) n0 n1 (by simp;omega);rw[ye,f1,DG];exact⟨y,rfl,f2⟩
theorem IsWay.does{t:Cd}{loose bound:Int}:∀{l:List Pl}{s:Int×Int}{n:Int}{x:Tx},IsWay t loose bound l s n x->x.length=l.length/\eY x/\ix t loose bound s (x.zip l)=true/\0<=n/\n<cnt t loose bound l s
 | [],s,n,x,h=>by
  obtain⟨e1,e2⟩:=h;subst e1 e2;exact⟨rfl,(fun c(hc:c∈[])=>nomatch hc),rfl,Kz _,(by decide:(0:Int)<1)⟩
 |m::r,s,n,x,h=>by
  obtain⟨p,c,q,n',y,g1,g2,g3,g4,g5,g6⟩:=h;obtain⟨f1,f2,f3,f4,f5⟩:=g6.does;subst g2;have hc:c∈fN t m loose bound s:=by rw[g1];simp
  obtain⟨c1,c2⟩:=mem_onw.mp hc;have nn:∀l:List Nat,0<=(l.map fun c=>cnt t loose bound r<|ai t s c).sum:=fun l=>by
   induction l with
   |nil=>exact Kz _
   |cons a l ih=>rw[EY,JI];have:=gj (t:=t) (loose:=loose) (bound:=bound) r<|ai t s a;omega
  refine⟨by simp[f1],fun d hd=>?_,?_,?_,?_⟩
  ·rcases E1.mp hd with z | z;·rw[z];exact c1
   ·exact f2 d z
  ·show(bZ t loose bound s c m && ix t loose bound (ai t s c) (y.zip r))=true;rw[c2,f3];rfl
  ·have:=nn p;omega
  ·show n< ((fN t m loose bound s).map fun c=>cnt t loose bound r<|ai t s c).sum;rw[g1,LU,List.sum_append,EY,JI];have:=nn q;omega
def Rst(t:Cd)(loose:Int)(strip:List Pl)(r:Option Int)(v:Option Int×Option Tx×List (List<|Int×Int)):Prop:=
 (r=none/\cnt t loose strip.length strip (0,0)=0/\v=(none,none,aS t loose strip.length strip [(0,0)]))\/
 ∃d x,r=some d/\0<=d/\d<=strip.length/\cnt t loose d strip (0,0)≠0/\(∀e,0<=e->e<d->cnt t loose e strip (0,0)=0)/\gL t strip loose d 0=.ok x/\IsWay t loose d strip (0,0) 0 x/\v=(some d,some x,if 0<d then aS t loose (d-1) strip [(0,0)]else [])
theorem pK{t:Cd}(h:Card t){strip:List Pl}(hs:strip.length<=60){loose:Int}(h0:0<=loose)(hl:loose<=3):∃r v,wj t strip loose=.ok r/\vC t strip loose=.ok v/\Rst t loose strip r v:=by
 obtain⟨r,er,hr⟩:=A1 h hs h0 hl;unfold vC C8;rw[er];rcases hr with⟨rfl,h1⟩|⟨d,rfl,d0,d1,d2,d3⟩
 ·rw[DG,if_pos (show(none:Option Int).isNone=true from rfl),js h h0 (show(0:Int)<=strip.length by omega) hl (by omega) strip (by omega),DG];exact⟨none,_,rfl,rfl,.inl ⟨rfl,h1,rfl⟩⟩
 ·have hp:0< cnt t loose d strip (0,0):=by have:=gj (t:=t) (loose:=loose) (bound:=d) strip (0,0);omega
  obtain⟨x,ex,hx⟩:=A2 h hs h0 hl d0 (by omega) (Kz 0) hp;refine⟨some d,(some d,some x,if 0<d then aS t loose (d-1) strip [(0,0)]else []),rfl,?_,.inr ⟨d,x,rfl,d0,d1,d2,d3,ex,hx,rfl⟩⟩;rw[DG,if_neg (show ¬(some d).isNone=true from JQ),show lQ (some d)=DK d from rfl,DG,DG,DG];by_cases z:0<d;·rw[if_pos<|decide_eq_true z,if_pos z,DG,js h h0 (show(0:Int)<=d-1 by omega) hl (by omega) strip (by omega),DG,DG,ex,DG,DG]
  ·rw[if_neg (by simpa using z),if_neg z,DG,DG,ex,DG,DG]
theorem Rst.lens{t:Cd}{loose:Int}{strip:List Pl}{r:Option Int}{v:Option Int×Option Tx×List (List<|Int×Int)}(h:Rst t loose strip r v)(hs:strip.length<=60)(hl:loose<=3):v.2.2.length<=61/\∀l∈v.2.2,l.length<=484:=by
 have key:∀b:Int,b<=60->(aS t loose b strip [(0,0)]).length<=61/\∀l∈aS t loose b strip [(0,0)],l.length<=484:=fun b hb=>⟨by
  have:=gB (t:=t) (loose:=loose) (bound:=b) strip [(0,0)];omega,fun l hl'=>by
  have:=gC (t:=t) hl hb strip [(0,0)] (by simp) yd l hl';exact iy this.1 this.2⟩
 rcases h with⟨_,_,rfl⟩|⟨d,x,_,d0,d1,_,_,_,_,rfl⟩
 ·exact key _ (by omega)
 ·by_cases z:0< d;·rw[if_pos z];exact key _ (by omega)
  ·rw[if_neg z];exact⟨by simp,fun l hl=>by cases hl⟩
theorem yf(p m:Pl)(b:Bool):bB wk ([p.1,p.2.1,p.2.2].zip [m.1,m.2.1,m.2.2]) b=.ok (b&&fits p m):=by
 have e:∀(a:Tx×Tx)(b:Bool),wk a b=.ok (b&&(decide (a.2=[63])||decide (a.2=a.1))):=fun a b=>by
  unfold wk;by_cases z:a.2=[63]
  ·simp[z]
  ·by_cases y:a.2=a.1;·simp[z,y]
   ·simp[z,y]
 show(wk (p.1,m.1) b).bind (fun s=>(wk (p.2.1,m.2.1) s).bind fun s=>(wk (p.2.2,m.2.2) s).bind fun s=>DK s)=_;simp only[e,DG];unfold fits;rw[Mf,Mf]
theorem mH{t:Cd}(h:Card t)(mk:Pl)(loose bound:Int)(s:Int×Int){c:Nat}(hc:isTurn c)(out:List (Int×Int))(ho:out.length<=1000):yE fL t mk loose bound s [c] out=.ok (if bZ t loose bound s c mk=true then out++[ai t s c]else out):=by
 unfold yE;rw[kG hc,DG,nr (by split<;>decide) (by split<;>decide),DG];have e:(s.2+1)*(if decide (([c]:Tx)=[105])=true then(1:Int)else 0)=(ai t s c).2:=by
  unfold ai;by_cases z:c=105;·simp[z]
  ·simp[z]
 have eh:(if decide (t.1=([90]:Tx))=true then DK ((t.2.2-(s.1+tw t c))%4)else DK ((t.2.2+(s.1+tw t c))%4):Res Int)=.ok (standAt t (ai t s c).1).2.2:=by
  unfold standAt ai;dsimp only;rcases h.lay with z|z
  ·rw[z];rfl
  ·rw[z];rfl
 rw[e,eh,DG];have hc2:=h.standAt (ai t s c).1;have ew:(if decide (cP (s.1+tw t c)<=bound)=true then DK (decide<|(ai t s c).2<=loose)else DK false:Res Bool)=.ok (cX (ai t s c) loose bound):=by
  unfold cX;show(if decide (cP (ai t s c).1<=bound)=true then _ else _)=_;cases decide (cP (ai t s c).1<=bound)<;>rfl
 rw[ew,DG];rw[show eR t.2.1 (standAt t (ai t s c).1).2.2=.ok [cZ (standAt t (ai t s c).1) (standAt t (ai t s c).1).2.2]from cW hc2 hc2.low hc2.high,DG];rw[show eR t.2.1 (((standAt t (ai t s c).1).2.2+2)%4)=.ok [cZ (standAt t (ai t s c).1) (((standAt t (ai t s c).1).2.2+2)%4)]from cW hc2 (fg _).1 (fg _).2,DG];rw[vJ<|vI t c,DG,DG,DG,DG];show((bB wk ([(place (standAt t (ai t s c).1) c).1,(place (standAt t (ai t s c).1) c).2.1,(place (standAt t (ai t s c).1) c).2.2].zip [mk.1,mk.2.1,mk.2.2])<|cX (ai t s c) loose bound).bind fun g=>(if g=true then(fW out<|ai t s c).bind fun y=>DK y else DK out:Res (List<|Int×Int)).bind fun s=>DK s)=_;rw[yf,DG];show((if bZ t loose bound s c mk=true then(fW out<|ai t s c).bind fun y=>DK y else DK out:Res (List<|Int×Int)).bind fun s=>DK s)=_;cases bZ t loose bound s c mk with
 |false=>rfl
 |true=>rw[if_pos rfl,if_pos rfl,eU (by omega)];rfl
theorem yg{t:Cd}(h:Card t)(mk:Pl)(loose bound:Int)(s:Int×Int):om t mk loose bound s=.ok ((fN t mk loose bound s).map (ai t s)):=by
 unfold om Ca;show((yE fL t mk loose bound s [102] []).bind fun s1=>(yE fL t mk loose bound s [98] s1).bind fun s1=>(yE fL t mk loose bound s [105] s1).bind fun s1=>DK s1).bind (fun s1=>DK s1)=_;rw[mH h mk loose bound s (.inl rfl) [] (by decide),DG,mH h mk loose bound s (.inr<|.inl rfl) _ (by split<;>simp),DG,mH h mk loose bound s (.inr<|.inr rfl) _ (by split<;>split<;>simp),DG,DG];unfold fN;cases h1:bZ t loose bound s 102 mk<;>cases h2:bZ t loose bound s 98 mk<;>cases h3:bZ t loose bound s 105 mk<;>simp[h1,h2,h3]
theorem w4(kvs:List ((Int×Int)×Bool))(k:Int×Int):(gS kvs k true).map (·.1)=if k∈kvs.map (·.1)then kvs.map (·.1)else kvs.map (·.1)++[k]:=by
 unfold gS;by_cases z:k∈kvs.map (·.1)
 ·have:(kvs.any fun kv=>decide<|kv.1=k)=true:=by
   obtain⟨kv,h1,h2⟩:=Ex.mp z;exact JP.mpr ⟨kv,h1,by simpa using h2⟩
  rw[if_pos this,if_pos z,FX];refine KC fun kv _=>?_;show(if kv.1=k then(kv.1,true)else kv).1=kv.1;split<;>rfl
 ·have:¬(kvs.any fun kv=>decide<|kv.1=k)=true:=fun y=>by
   obtain⟨kv,h1,h2⟩:=JP.mp y;exact z (Ex.mpr ⟨kv,h1,by simpa using h2⟩)
  rw[if_neg this,if_neg z];simp
def Ks(kvs:List ((Int×Int)×Bool))(P:Int×Int->Prop):Prop:=(kvs.map (·.1)).Nodup/\∀p,p∈kvs.map (·.1)↔P p
theorem Ks.put{kvs:List ((Int×Int)×Bool)}{P:Int×Int->Prop}(h:Ks kvs P)(k:Int×Int):Ks (gS kvs k true) fun p=>P p\/p=k:=by
 unfold Ks;rw[w4];by_cases z:k∈kvs.map (·.1)
 ·rw[if_pos z];exact⟨h.1,fun p=>by rw[h.2];exact⟨.inl,fun y=>y.elim id fun e=>by rw[e];exact(h.2 k).mp z⟩⟩
 ·rw[if_neg z];refine⟨Jw.mpr ⟨h.1,by simp,fun a ha b hb e=>?_⟩,fun p=>by rw[EI,h.2];simp⟩;have:b=k:=by simpa using hb
  subst this;subst e;exact z ha
theorem Ks.iff{kvs:List ((Int×Int)×Bool)}{P Q:Int×Int->Prop}(h:Ks kvs P)(e:∀p,P p↔Q p):Ks kvs Q:=⟨h.1,fun p=>(h.2 p).trans (e p)⟩
theorem w5{α:Type}(l:List α):cut l none (some<|-(1:Int))=l.dropLast:=by
 unfold cut sIx;dsimp only;rw[if_pos (by decide),J6,MZ,Km];congr 1;omega
theorem w6{α:Type}(l:List α):cut l (some (1:Int)) none=l.drop 1:=jS l 1
def og(t:Cd)(loose bound:Int)(a:Pl×List (Int×Int)×List (Int×Int)):Bool:=a.2.1.all fun s=>(fN t a.1 loose bound s).all fun c=>a.2.2.contains<|ai t s c
def qU(t:Cd)(loose bound:Int)(strip:List Pl)(L:List (List<|Int×Int)):Bool:=
 decide (2<=L.length)&&decide (L.length<=strip.length+1)&&decide (L[L.length-1]?.getD []=[])&&(L[0]?.getD []).contains (0,0)&&(strip.zip<|L.dropLast.zip<|L.drop 1).all (og t loose bound)
theorem w8{kvs:List ((Int×Int)×Bool)}{k:Int×Int}:(look kvs k).isSome=true↔k∈kvs.map (·.1):=by
 unfold look;rw[Lr,List.find?_isSome];simp
theorem yh{kvs:List ((Int×Int)×Bool)}{k:Int×Int}:(gS kvs k true).length<=kvs.length+1:=by unfold gS;split<;>simp
theorem qV:∀(ys:List (Int×Int))(kvs:List ((Int×Int)×Bool))(P:Int×Int->Prop),Ks kvs P->kvs.length+ys.length<=990->∃kvs',bB (fun(a:Int×Int)(s:List ((Int×Int)×Bool))=>(fv s a true).bind fun y=>DK y) ys kvs=.ok kvs'/\Ks kvs' fun p=>P p\/p∈ys
 | [],kvs,P,h,_=>⟨kvs,rfl,h.iff fun p=>by simp⟩
 |a::ys,kvs,P,h,hl=>by
  simp only[GY]at hl;have hp:=yh (kvs:=kvs) (k:=a);obtain⟨kvs',e,h'⟩:=qV ys (gS kvs a true) _ (h.put a) (by omega);refine⟨kvs',?_,h'.iff fun p=>by rw[E1,or_assoc]⟩;show((fv kvs a true).bind fun y=>DK y).bind _=_;rw[show fv kvs a true=.ok (gS kvs a true)from bj (by omega),DG,DG];exact e
theorem yi:Bl=fun(a:Int×Int)(s:List ((Int×Int)×Bool))=>(fv s a true).bind fun y=>DK y:=by
 funext a s;unfold Bl;rfl
theorem oh{α:Type}{f:α->Bool}:∀(xs:List α),(xs.findSome? fun a=>if f a=true then none else some false)=if xs.all f=true then none else some false
 | []=>rfl
 |a::xs=>by
  rw[IU,JA];cases h:f a;·simp
  ·simp[oh xs]
theorem eI{α:Type}{g:α->Unit->Res (Fl Bool Unit)}{f:α->Bool}(xs:List α)(h:∀a∈xs,g a ()=.ok (if f a=true then .nx ()else .rt false)):cQ g xs ()=.ok (if xs.all f=true then .nx ()else .rt false):=by
 rw[iS (g:=fun a=>if f a=true then none else some false) xs fun a ha=>by rw[h a ha];cases f a<;>rfl,oh];cases xs.all f<;>rfl
theorem yj{t:Cd}(h:Card t)(loose bound:Int){a:Pl×List (Int×Int)×List (Int×Int)}(hl:a.2.2.length<=900):Bm om t loose bound a ()=.ok (if og t loose bound a=true then .nx ()else .rt false):=by
 unfold Bm;obtain⟨kvs,e,hk⟩:=qV a.2.2 [] (fun _=>False) ⟨HC,fun p=>by simp⟩ (by simp;omega);rw[yi,e,DG,eI (f:=fun s=>(fN t a.1 loose bound s).all fun c=>a.2.2.contains<|ai t s c) a.2.1 fun s hs=>?_]
 ·show _=DK (if(a.2.1.all fun s=>(fN t a.1 loose bound s).all fun c=>a.2.2.contains<|ai t s c)=true then _ else _);rw[DG];cases (a.2.1.all fun s=>(fN t a.1 loose bound s).all fun c=>a.2.2.contains<|ai t s c)<;>rfl
 ·unfold Cc;rw[yg h,DG,eI (f:=fun p=>a.2.2.contains p) _ fun p hp=>?_]
  ·rw[List.all_map,DG];show(match (if((fN t a.1 loose bound s).all fun c=>a.2.2.contains<|ai t s c)=true then(Fl.nx ():Fl Bool Unit)else .rt false)with| .nx _=>_| .rt r=>_| .bk _=>_)=_;cases ((fN t a.1 loose bound s).all fun c=>a.2.2.contains<|ai t s c)<;>rfl
  ·unfold Cb;have:(look kvs p).isSome=a.2.2.contains p:=by
    rw[FA,w8,hk.2 p,Kn];simp
   rw[this];cases a.2.2.contains p<;>rfl
theorem mI{xs:List Dat}:bT 3 (.l xs)=true:=rfl
theorem w9{xs:List Dat}:bT 4 (.t xs)=true:=rfl
theorem yk{l:List (Int×Int)}(hl:l.length<=900):Bk l ()=.ok (.nx ()):=by
 unfold Bk;rw[mI,show(!true)=false from rfl,if_neg (by decide),eB (g:=fun _:Int×Int=>true) (f:=fun(a29:Int×Int)=>DK<|bT 4<|Hs [Fh a29.1,Fh a29.2]) (by show l.length<=100000;omega)<|fun x _=>rfl,DG,DG,DG];have:(l.map fun _:Int×Int=>true).all id=true:=by rw[G8];intro x hx;obtain⟨_,_,rfl⟩:=Ex.mp hx;rfl
 rw[this];rfl
theorem qW{t:Cd}(h:Card t)(strip:List Pl)(loose bound:Int){L:List (List<|Int×Int)}(hl:∀l∈L,l.length<=900):wm t strip loose bound L=.ok (qU t loose bound strip L):=by
 unfold wm Ce;rw[mI,show(!true)=false from rfl,if_neg (by decide)];unfold qU;by_cases h2:2<=L.length
 ·rw[if_neg (by simp;omega),DG,decide_eq_true h2,Gd];by_cases h3:L.length<=strip.length+1
  ·rw[if_neg (by simp;omega),decide_eq_true h3,Gd];rw[eI (f:=fun _=>true) L fun l hl'=>yk<|hl l hl',DG];rw[show(L.all fun _=>true)=true from by simp,if_pos rfl];dsimp only;have l1:L[L.length-1]? =some L[L.length-1]:=DO (by omega);have l0:L[0]? =some L[0]:=DO (by omega);rw[kI l1,DG,DG,l1,l0,Gs,Gs];by_cases h4:L[L.length-1]=[]
   ·rw[decide_eq_true h4,Gd,h4,show(!([]:List (Int×Int)).isEmpty)=false from rfl,if_neg (by decide),show fc L (0:Int)=.ok L[0]from dN (i:=0) l0,DG,DG];cases h5:L[0].contains (0,0)with
    |false=>rfl
    |true=>
     rw[show(!true)=false from rfl,if_neg (by decide),Gd,w5,w6,eI (f:=og t loose bound) _ fun a ha=>?_,DG];·cases (strip.zip<|L.dropLast.zip<|L.drop 1).all (og t loose bound)<;>rfl
     ·have h6:=GB (show(a.1,a.2)∈_ from ha);have h7:=GB (show(a.2.1,a.2.2)∈_ from h6.2);exact yj h loose bound<|hl _<|List.mem_of_mem_drop h7.2
   ·rw[decide_eq_false h4,J3,J3];have:(!L[L.length-1].isEmpty)=true:=by
     cases q:L[L.length-1]with
     |nil=>exact absurd q h4
     |cons _ _=>rfl
    rw[this,if_pos rfl,DG,if_pos rfl]
  ·rw[if_pos (by simp;omega),decide_eq_false h3];simp
 ·rw[if_pos (by simp;omega),DG,if_pos rfl,decide_eq_false h2];simp
theorem kK{t:Cd}{loose bound:Int}{strip:List Pl}(h:cnt t loose bound strip (0,0)=0):qU t loose bound strip (aS t loose bound strip [(0,0)])=true:=by
 obtain⟨r,hr⟩:=eZ (t:=t) (loose:=loose) (bound:=bound) strip [(0,0)];obtain⟨E,e1,_,e3⟩:=eH (t:=t) (loose:=loose) (bound:=bound) strip [(0,0)];have hE:E=[]:=e3.mpr fun s hs=>by
  have:s=(0,0):=by simpa using hs
  rw[this];exact h
 subst hE;have hlen:=gB (t:=t) (loose:=loose) (bound:=bound) strip [(0,0)];have h2:2<=(aS t loose bound strip [(0,0)]).length:=by
  cases strip with
  |nil=>exact absurd h (by show ¬(1:Int)=0;decide)
  |cons m q=>
   have:=kH (t:=t) (loose:=loose) (bound:=bound) q<|gU t m loose bound [(0,0)];show 2<=(aS t loose bound q<|gU t m loose bound [(0,0)]).length+1;omega
 unfold qU;rw[decide_eq_true h2,decide_eq_true hlen,e1,hr];simp only[Gs,Gd,GW];rw[<-hr,show decide True=true from rfl,Gd,show([((0:Int),(0:Int))]:List (Int×Int)).contains (0,0)=true from by decide,Gd,G8];intro a ha;obtain⟨i,hi⟩:=Gw.mp ha;obtain⟨z1,z2⟩:=FE.mp hi;obtain⟨z3,z4⟩:=FE.mp z2;rw[EZ]at z4;rw[Km]at z3;have hi1:1+i<(aS t loose bound strip [(0,0)]).length:=(DR.mp z4).1;rw[EC (by omega)]at z3;obtain⟨m,L,q1,q2,q3⟩:=iB (t:=t) (loose:=loose) (bound:=bound) strip [(0,0)] i (by omega);rw[q1]at z1;rw[q2]at z3;rw[MY,q3]at z4;unfold og;rw[<-Es z1,<-Es z3,<-Es z4,G8];intro s hs;rw[G8];intro c hc;rw[Kn];exact mem_nxt.mpr ⟨s,hs,c,(mem_onw.mp hc).1,(mem_onw.mp hc).2,rfl⟩
theorem sS(i:Int):Bh i ()=.ok (.nx ()):=by
 unfold Bh;rfl
theorem sT(p:Int×Int):Bi p ()=.ok (.nx ()):=by
 unfold Bi;rw[w9,show(!true)=false from rfl,if_neg (by decide),DG,show(!decide ((2:Int)=2))=false from rfl,if_neg (by decide),eI (f:=fun _=>true) _ fun i _=>sS i];rfl
theorem sU(l:List (Int×Int)):Bj l ()=.ok (.nx ()):=by
 unfold Bj;rw[mI,show(!true)=false from rfl,if_neg (by decide),eI (f:=fun _=>true) _ fun p _=>sT p,show(l.all fun _=>true)=true from by simp];rfl
theorem sV(L:List (List<|Int×Int)):xJ L=.ok true:=by
 unfold xJ C9;rw[mI,show(!true)=false from rfl,if_neg (by decide),eI (f:=fun _=>true) _ fun p _=>sU p,show(L.all fun _=>true)=true from by simp];rfl
theorem lC{t:Cd}(h:Card t){strip:List Pl}(hs:strip.length<=60){loose:Int}(h0:0<=loose)(hl:loose<=3):∃v,vC t strip loose=.ok v/\wo t strip loose v=.ok true:=by
 obtain⟨r,v,er,ev,hr⟩:=pK h hs h0 hl;refine⟨v,ev,?_⟩;have hv:=(hr.lens hs hl).2;unfold wo Ci;rw[w9,show(!true)=false from rfl,if_neg (by decide),show(!decide ((3:Int)=3))=false from rfl,if_neg (by decide),sV,DG,DG,show(!true)=false from rfl,if_neg (by decide)];rcases hr with⟨_,h1,rfl⟩|⟨d,x,_,d0,d1,d2,d3,_,hx,rfl⟩
 ·rw[if_pos (show(none:Option Int).isNone=true from rfl),if_pos (show(none:Option Tx).isNone=true from rfl),qW h strip loose strip.length (fun l hl'=>by have:=hv l hl';omega),kK h1]
 ·obtain⟨x1,x2,x3,_⟩:=hx.does;have ex:mC x strip.length=true:=by
   unfold mC;rw[GN,decide_eq_true_iff,G8];exact⟨x1,fun c hc=>turnB_iff.mpr<|x2 c hc⟩
  rw[if_neg (show ¬(some d).isNone=true from JQ)];rw[show bT 1 ((fun(z:Option Int)=>i8 (fun(z:Int)=>Fh z) z)<|some d)=true from rfl,show bT 0 ((fun(z:Option Int)=>i8 (fun(z:Int)=>Fh z) z)<|some d)=false from rfl,show bT 2 ((fun(z:Option Tx)=>i8 (fun(z:Tx)=>NM z) z)<|some x)=true from rfl];rw[show(!true)=false from rfl,if_neg (by decide),if_neg (by decide),show lQ (some d)=DK d from rfl,show lQ (some x)=DK x from rfl,DG,DG,if_neg (by simp;omega),if_neg (by decide),DG,DG,sP h strip loose d (by omega),ex,x3,DG,DG,if_neg (by decide),DG,DG];by_cases z:d=0
  ·subst z;rfl
  ·rw[if_neg (by simpa using z),DG,DG,if_pos (show 0<d by omega),qW h strip loose (d-1) (fun l hl'=>by
    have:=hv l (by rw[if_pos (show 0<d by omega)];exact hl');omega),kK (d3 (d-1) (by omega) (by omega))]
theorem A3(ns:List Int)(h:ns.length<=63):(vD ns).Ok (· =true):=by
 unfold vD qM;refine jj ((show(wd ns (12:Int)).Ok _ from xX h 12 (by decide)).imp fun y zz=>?_);obtain⟨hc,⟨n,hn,hm⟩,g0,g1⟩:=zz;have hl:y.2.1.length=n:=hm.1;obtain⟨c5,e5⟩:=j5 h 5 (by decide);obtain⟨c6,e6⟩:=j5 h 6 (by decide);obtain⟨c7,e7⟩:=j5 h 7 (by decide);rw[show gT ns 5=.ok c5 from e5,show gT ns 6=.ok c6 from e6,show gT ns 7=.ok c7 from e7,DG];refine jj ((vO hm (by omega) c7).imp fun strip hs'=>?_);have hs:strip.length=n:=hs'.1;obtain⟨v,ev,e2⟩:=lC hc (show strip.length<=60 by omega) g0 (show y.2.2<=3 by omega);rw[ev,DG,e2,DG,DG,show(!true)=false from rfl,if_neg (by decide)];refine Cw (fun _=>fK rfl) fun z=>?_;have zp:0<strip.length:=by
  rcases Nat.eq_zero_or_pos strip.length with w|w;·rw[GO.mp w]at z;cases z
  ·exact w
 rw[DG,gy (by omega),DG,DG,DG];have a0:0<=c5%(strip.length:Int):=EN _ (by omega);have a1:c5%(strip.length:Int)<strip.length:=Ew _ (by omega);obtain⟨i,hi⟩:∃i:Nat,c5%(strip.length:Int)=(i:Int):=⟨_,(KD a0).symm⟩
 rw[hi]at a1 ⊢;have hi':i<strip.length:=by omega
 rw[dN<|DO hi',DG,DG];have j0:0<=c6%4%3:=EN _ (by decide);have j1:c6%4%3<3:=Ew _ (by decide);rw[lW (xs:=[strip[i].1,strip[i].2.1,strip[i].2.2]) j0 j1,DG];refine jj (FT (P:=fun s:List Tx=>s.length=3) (ny (fun _=>?_) fun _=>fK (by simp)) fun s hs3=>?_)
 ·rw[DG,DG];obtain⟨c,ec,_⟩:=fI (x:=([115,122,111]:Tx)) (i:=c6/4%3) (EN _ (by decide)) (Ew _ (by decide)) (by decide);rw[DG,ec,DG,lW (by decide) (by simp),DG];exact fK (by simp)
 ·match s,hs3 with
  | [a,b,c],_=>
   rw[show u9 [a,b,c]=.ok (a,b,c)from rfl,DG,DG,jR,qh (by simp;omega),DG,show(i:Int)+1=((i+1:Nat):Int) by omega,jS,qh (by simp;omega),DG];obtain⟨v,ev,e2⟩:=lC hc (strip:=strip.take i++[(a,b,c)]++strip.drop (i+1)) (by simp;omega) g0 (show y.2.2<=3 by omega);rw[ev,DG,e2];rfl
end Mi
namespace PySem.W.Fast
def tw861502493610598483:=()
def tw16357400675011705886:=()
def tw7774113678449685934:=()
def tw1417652077214873720:=()
def tw5127367033827617521:=()
def tw13282000867657480947:=()
def tw5858633384734287302:=()
def tw4480162626587320490:=()
def tw5002640475654186023:=()
def tw8422229294311615681:=()
def tw16636501806038632012:=()
def tw5890639436620234070:=()
def tw772564365185477556:=()
def tw10826640976665885199:=()
def tw14196385902569759983:=()
def tw9402243437249704421:=()
def tw2931988195819169919:=()
def tw8431482922422412695:=()
def tw12670982853097334264:=()
def tw14827714588952709054:=()
def tw10551173667578312727:=()
def tw6548459193220583526:=()
def tw6170744672141170255:=()
def tw14022695629967993375:=()
def tw1864683662541468164:=()
def tw5344885176932410299:=()
def tw9377399702891462756:=()
def tw12431713363859531893:=()
def tw1383625962624193546:=()
def tw11384182702204212275:=()
def tw9116068151291705539:=()
def tw17435391645217708394:=()
def tw4547051000311932777:=()
def tw17292613610259460706:=()
def tw14172470266813156586:=()
def tw11066385474520676512:=()
def tw13172660604052367476:=()
def tw9582823730064241283:=()
def tw12099505692703838030:=()
def tw7867829370405329436:=()
def tw4684226298888400098:=()
def tw12269216009862288129:=()
def tw615563214671542189:=()
def tw6968137755033780318:=()
def tw28018229315631829:=()
def tw16822532161544500889:=()
def tw8374155422468719031:=()
def tw8219003486749837733:=()
def tw4635989785427082552:=()
def tw4849480874435393781:=()
def tw2107523057676978006:=()
def tw8080008513338510535:=()
def tw13953587524928339648:=()
def tw447263597446747957:=()
def tw14904681115217272601:=()
def tw9689729476882780088:=()
def tw5622701340561072331:=()
def tw13757698761724263525:=()
def tw10624116801336726872:=()
def tw4548300405975405348:=()
def tw11373181179767321252:=()
def tw12652081859355081885:=()
def tw9848817304349107530:=()
def tw16723463757517087524:=()
def tw1915925776726481438:=()
def tw11738243743197964597:=()
def tw17464319187374939960:=()
def tw11429584451438056573:=()
def tw15779231459743154856:=()
def tw1746151400102762189:=()
def tw17518593693041627797:=()
def tw5217270863462422736:=()
def tw896878414759379649:=()
def tw15861351967447197489:=()
def tw8972062959192195235:=()
def tw1205274952441263945:=()
def tw14243238205550065757:=()
def tw16955839230299176341:=()
def tw8899516883271353254:=()
def tw13462424878891718212:=()
end PySem.W.Fast
section
open PySem PySem.W PyProof.Rows
set_option maxHeartbeats 0 in
open_top hd for PySem.Challenge.rw_wornband_k38_whole_restoring
end
namespace Wb
open PySem L2 Mi
theorem yl{K:DJ}:∀vs H Q E,qN K vs H Q E->cY (isScr K) (rs isB) vD vs H Q E:=fun vs H Q E⟨a,ns,h1,h2,h3,h4⟩=>
 ⟨⟨H,H,.refl _⟩,ns,.ref a,rfl,h1,⟨a,rfl,h2⟩,fun _=>False,Res.Ok.e ((A3 ns h3).imp fun r hr u W' _ hu=>by cases hr;cases hu;exact h4 _)⟩
theorem fin_mk{l:Iy}{w:E8}{K:DJ}{h:Heap}{mg:Str->Option DM}{fa:Addr}{f_law:Addr}{od_law an_law:Option Addr}{sl_law:Array (Option DM)}{oc_law kV_law dc_law pm_law cd_law ct_law:DM}{Z29:Tok}{Z1T:Addr}{Z4S:Nat}{x_SLANTS0 y_SLANTS0 x_SLANTS1 y_SLANTS1 x_SLANTS2 y_SLANTS2:Tok}{Z1L:Addr}{Z51:Nat}{x_START0 x_START1:Tok}{Z28:Addr}{Z52:Nat}{x_STEPS0 y_STEPS0 x_STEPS1 y_STEPS1 x_STEPS2 y_STEPS2:Tok}{Z3Z:Tok}{Z4f:Tok}(X:K.In h)(G:h.Ns mainGlobals mg)(hfa:mg "law"=some (.ref fa))
  (Z3s:DI K "_law_at" (tp 36) ["_law_script","_law_k"])
  (Z3o:DI K "_law_row" (tp 32) ["_law_cell","_law_many","_law_base"])
  (Z2D:DI K "_law_holes" (tp 33) ["_law_cell"])
  (Z2Y:DI K "_law_card" (tp 34) ["_law_cell"])
  (Z2E:DI K "_law_turns" (tp 35) ["_law_cell","_law_many"])
  (Z3t:DI K "_law_go" (tp 38) ["_law_turn"])
  (Z2l:DI K "_law_behind" (tp 39) ["_law_card_here","_law_turn"])
  (Z2F:DI K "_law_twist" (tp 40) ["_law_card_here","_law_turn"])
  (Z2m:DI K "_law_places" (tp 41) ["_law_card_here","_law_turns_here"])
  (Z2Z:DI K "_law_long" (tp 43) ["_law_places_here","_law_cell"])
  (Z2G:DI K "_law_marks" (tp 42) ["_law_places_here","_law_cell","_law_lies"])
  (Z25:DI K "_law_turnover" (tp 44) ["_law_card_here"])
  (Z30:DI K "_law_back" (tp 45) ["_law_turns_here"])
  (Z31:DI K "_law_roll" (tp 46) ["_law_card_here","_law_many"])
  (Z32:DI K "_law_seen" (tp 47) ["_law_card_here","_law_turns_here"])
  (Z3p:DI K "_law_kin" (tp 48) ["_law_card_here","_law_turns_here","_law_cell"])
  (Z33:DI K "_law_case" (tp 49) ["_law_script","_law_most"])
  (Z2H:DI K "_law_faded" (tp 55) ["_law_strip","_law_cell"])
  (Z3I:DI K "within" (tp 21) ["state","loose","bound"])
  (Z3q:DI K "twisting" (tp 9) ["tablet","turn"])
  (Z2d:DI K "state_behind" (tp 20) ["tablet","state","turn"])
  (Z3u:DI K "twisted" (tp 19) ["tablet","twist"])
  (d_top:DI K "top" (tp 7) ["tablet"])
  (Z3J:DI K "bottom" (tp 8) ["tablet"])
  (Z2I:DI K "left_place" (tp 12) ["tablet","turn"])
  (Z43:DI K "suits" (tp 16) ["sign","left"])
  (Z3K:DI K "agrees" (tp 15) ["place","mark"])
  (Z3L:DI K "leaves" (tp 22) ["tablet","state","turn","mark"])
  (Z3M:DI K "onward" (tp 23) ["tablet","mark","loose","bound","state"])
  (Z26:DI K "states_behind" (tp 25) ["tablet","mark","loose","bound","states"])
  (Z3N:DI K "search" (tp 24) ["tablet","strip","loose","bound"])
  (Z44:DI K "least" (tp 29) ["tablet","strip","loose"])
  (Z45:DI K "tails" (tp 26) ["tablet","strip","loose","bound"])
  (Z3O:DI K "chosen" (tp 28) ["moves","counts","number"])
  (d_way:DI K "way" (tp 27) ["tablet","strip","loose","bound","number"])
  (Z3v:DI K "restore" (tp 30) ["tablet","strip","loose"])
  (Z2n:DI K "_law_states" (tp 50) ["_law_lists"])
  (Z34:DI K "_law_next" (tp 51) ["_law_card_here","_law_mark","_law_loose","_law_bound","_law_state"])
  (Z35:DI K "_law_shut" (tp 52) ["_law_card_here","_law_strip","_law_loose","_law_bound","_law_lists"])
  (Z36:DI K "_law_does" (tp 53) ["_law_card_here","_law_strip","_law_loose","_law_bound","_law_text"])
  (Z2o:DI K "_law_triple" (tp 54) ["_law_card_here","_law_strip","_law_loose","_law_found"])
  (a_law:EE K mainGlobals "law"=some (some<|.ref f_law))
  (l_law:K.lookup f_law=some ⟨oc_law,od_law,.func<|Gn "law" "law" (defArgs<|tp 56) (defBody<|tp 56) (defScope<|tp 56) .none kV_law dc_law pm_law an_law cd_law ct_law,sl_law⟩)
  (c_law:I0 K cd_law "law"=true)
  (k_law:Hv K (.ref f_law)=true)
  (z_abs:EE K mainGlobals "abs"=some none)
  (z_all:EE K mainGlobals "all"=some none)
  (z_bool:EE K mainGlobals "bool"=some none)
  (z_enumerate:EE K mainGlobals "enumerate"=some none)
  (z_int:EE K mainGlobals "int"=some none)
  (z_isinstance:EE K mainGlobals "isinstance"=some none)
  (z_len:EE K mainGlobals "len"=some none)
  (z_list:EE K mainGlobals "list"=some none)
  (z_range:EE K mainGlobals "range"=some none)
  (z_reversed:EE K mainGlobals "reversed"=some none)
  (z_sorted:EE K mainGlobals "sorted"=some none)
  (z_str:EE K mainGlobals "str"=some none)
  (z_sum:EE K mainGlobals "sum"=some none)
  (z_tuple:EE K mainGlobals "tuple"=some none)
  (z_zip:EE K mainGlobals "zip"=some none)
  (Z46:EE K mainGlobals "HOLES"=some (some<|.int 4 Z29))
  (Z3P:EE K mainGlobals "SLANTS"=some (some<|.ref Z1T))
  (Z3Q:K.lookup Z1T=some {cls:=.type "dict",data:=.dict #[⟨hashInt<|1,.int (1) x_SLANTS0,.str (DP "s") y_SLANTS0⟩,⟨hashInt<|-1,.int (-1) x_SLANTS1,.str (DP "z") y_SLANTS1⟩,⟨hashInt<|0,.int (0) x_SLANTS2,.str (DP "o") y_SLANTS2⟩] Z4S})
  (Z3R:(Z1T==sysModules)=false)
  (Z47:EE K mainGlobals "START"=some (some<|.ref Z1L))
  (Z48:K.lookup Z1L=some {cls:=.type "tuple",data:=.seq #[.int (0) x_START0,.int (0) x_START1] Z51})
  (Z49:EE K mainGlobals "STEPS"=some (some<|.ref Z28))
  (Z4a:K.lookup Z28=some {cls:=.type "dict",data:=.dict #[⟨IG w.params<|DP "f",.str (DP "f") x_STEPS0,.int (1) y_STEPS0⟩,⟨IG w.params<|DP "b",.str (DP "b") x_STEPS1,.int (-1) y_STEPS1⟩,⟨IG w.params<|DP "i",.str (DP "i") x_STEPS2,.int (0) y_STEPS2⟩] Z52})
  (Z4b:(Z28==sysModules)=false)
  (Z4c:EE K mainGlobals "TURNS"=some (some<|.str (DP "fbi") Z3Z))
  (Z4i:EE K mainGlobals "WORN"=some (some<|.str (DP "?") Z4f))
  :∃fd:Ee,(∀(s:DN)(v:DM),Le s fd ⟨[v],[]⟩ [("_law_script",v)])/\∀base:Heap,K.In base->base.Ns mainGlobals mg->FnOk l.prog w K mg base CX0 10 fa fd ["_law_script"] (qN K):=by
 have e:=hfa.symm.trans<|GH X G a_law;cases e;have F_law:=oG (st:=tp 56) l_law c_law k_law;have b_law:=F_law.binds (ps:=["_law_script"]) fun _ _ _ _ _ _ us hl=>match us,hl with| [_],_=>rfl
 have h_abs:=EF X G z_abs;have h_all:=EF X G z_all;have h_bool:=EF X G z_bool;have h_enumerate:=EF X G z_enumerate;have h_int:=EF X G z_int;have h_isinstance:=EF X G z_isinstance;have h_len:=EF X G z_len;have h_list:=EF X G z_list;have h_range:=EF X G z_range;have h_reversed:=EF X G z_reversed;have h_sorted:=EF X G z_sorted;have h_str:=EF X G z_str;have h_sum:=EF X G z_sum;have h_tuple:=EF X G z_tuple;have h_zip:=EF X G z_zip;have Z1K:=GH X G Z46;have Z3C:=GH X G Z3P;have Z3D:DictK K w Z1T [(GI<|1,.str<|DP "s"),(GI<|-1,.str<|DP "z"),(GI<|0,.str<|DP "o")]:=⟨by decide,Z3R,by decide +kernel,_,_,Z3Q,(.cons ⟨gk _ _,rfl,⟨_,rfl⟩⟩<|.cons ⟨gk _ _,rfl,⟨_,rfl⟩⟩<|.cons ⟨gk _ _,rfl,⟨_,rfl⟩⟩ .nil)⟩
 have Z1U:=GH X G Z47;have Z1V:∀H,SqT K H Z1L [.int (0),.int<|0]:=fun H=>.inr ⟨_,_,_,Z48,⟨rfl,rfl⟩,rfl,(by show 2<=sizeLine;decide),(.cons ⟨_,rfl⟩<|.cons ⟨_,rfl⟩ .nil)⟩;have Z3V:=GH X G Z49;have Z3W:DictK K w Z28 [(GJ<|DP "f",.int<|1),(GJ<|DP "b",.int<|-1),(GJ<|DP "i",.int<|0)]:=⟨by decide,Z4b,by decide +kernel,_,_,Z4a,(.cons ⟨gm _ _,rfl,⟨_,rfl⟩⟩<|.cons ⟨gm _ _,rfl,⟨_,rfl⟩⟩<|.cons ⟨gm _ _,rfl,⟨_,rfl⟩⟩ .nil)⟩
 have Z40:=GH X G Z4c;have Z4g:=GH X G Z4i;refine⟨Gn "law" "law" (defArgs<|tp 56) (defBody<|tp 56) (defScope<|tp 56) .none kV_law dc_law pm_law an_law cd_law ct_law,fun s v=>.of_eq rfl,fun base KB _=>?_⟩;have Z0C:Cal l.prog w K mg base _ _ _ (bz _ _ _ gT):=Z3s.cal X G fun F=>CS F h_len;have Z0w:Cal l.prog w K mg base _ _ _ (cI _ _ _ _ gz):=Z3o.cal X G fun F=>CT F h_abs h_range;have Z2w:Cal l.prog w K mg base _ _ _ (cY _ _ xr):=Z2D.cal X G fun F=>CU F Z0w;have Z2h:Cal l.prog w K mg base _ _ _ (cY _ _ wc):=Z2Y.cal X G fun F=>CV F Z2w;have Z2y:Cal l.prog w K mg base _ _ _ (bz _ _ _ xt):=Z2E.cal X G fun F=>CW F Z0w;have Z1B:Cal l.prog w K mg base _ _ _ (cY _ _ oj):=Z3t.cal X G fun F=>CY F;have Z10:Cal l.prog w K mg base _ _ _ (bz _ _ _ jr):=Z2l.cal X G fun F=>CZ F Z1B;have Z0K:Cal l.prog w K mg base _ _ _ (bz _ _ _ fL):=Z2F.cal X G fun F=>D0 F Z1B;have Z11:Cal l.prog w K mg base _ _ _ (bz _ _ _ pj):=Z2m.cal X G fun F=>D4 F Z10 Z0K;have Z2U:Cal l.prog w K mg base _ _ _ (bz _ _ _ xu):=Z2Z.cal X G fun F=>D5 F Z0w h_len h_zip;have Z2z:Cal l.prog w K mg base _ _ _ (cI _ _ _ _ xv):=Z2G.cal X G fun F=>D6 F Z0w h_int h_len h_tuple h_zip;have Z22:Cal l.prog w K mg base _ _ _ (cY _ _ xw):=Z25.cal X G fun F=>D7 F;have Z2R:Cal l.prog w K mg base _ _ _ (cY _ _ xx):=Z30.cal X G fun F=>D8 F;have Z2S:Cal l.prog w K mg base _ _ _ (bz _ _ _ xA):=Z31.cal X G fun F=>Dc F h_range;have Z2T:Cal l.prog w K mg base _ _ _ (bz _ _ _ xB):=Z32.cal X G fun F=>Dd F Z10 h_sorted;have Z3n:Cal l.prog w K mg base _ _ _ (cI _ _ _ _ xC):=Z3p.cal X G fun F=>De F Z22 Z2R Z2S Z2T h_range;have Z2X:Cal l.prog w K mg base _ _ _ (bz _ _ _ wd):=Z33.cal X G fun F=>Df F Z2h Z0C Z2y Z11 Z2U Z2z Z3n;have Z2C:Cal l.prog w K mg base _ _ _ (bz _ _ _ xD):=Z2H.cal X G fun F=>Dg F Z0w h_len h_zip;have Z2b:Cal l.prog w K mg base _ _ _ (cI _ _ _ _ nU):=Z3I.cal X G fun F=>Dh F h_abs;have Z1J:Cal l.prog w K mg base _ _ _ (bz _ _ _ pq):=Z3q.cal X G fun F=>Di F Z3V Z3W;have Z2a:Cal l.prog w K mg base _ _ _ (cI _ _ _ _ we):=Z2d.cal X G fun F=>Dj F Z1J;have Z3r:Cal l.prog w K mg base _ _ _ (bz _ _ _ xE):=Z3u.cal X G fun F=>Dk F Z1K;have C_top:Cal l.prog w K mg base _ _ _ (cY _ _ iu):=d_top.cal X G fun F=>Bo F Z1K;have Z3B:Cal l.prog w K mg base _ _ _ (cY _ _ xF):=Z3J.cal X G fun F=>Dl F Z1K;have Z2B:Cal l.prog w K mg base _ _ _ (bz _ _ _ xG):=Z2I.cal X G fun F=>Dm F C_top Z3B Z1J Z3C Z3D;have Z3Y:Cal l.prog w K mg base _ _ _ (bz _ _ _ wg):=Z43.cal X G fun F=>Dn F Z4g;have Z3E:Cal l.prog w K mg base _ _ _ (bz _ _ _ xH):=Z3K.cal X G fun F=>Dp F Z3Y h_all h_zip;have Z3F:Cal l.prog w K mg base _ _ _ (gE _ _ _ _ _ vB):=Z3L.cal X G fun F=>Dq F Z3E Z2B Z3r;have Z1m:Cal l.prog w K mg base _ _ _ (eK _ _ _ _ _ _ gA):=Z3M.cal X G fun F=>Dr F Z2a Z2b Z3F Z40;have Z24:Cal l.prog w K mg base _ _ _ (eK _ _ _ _ _ _ pA):=Z26.cal X G fun F=>Ds F Z1m h_sorted;have Z0Y:Cal l.prog w K mg base _ _ _ (gE _ _ _ _ _ iD):=Z3N.cal X G fun F=>Dt F Z2b Z24 Z1U Z1V;have Z42:Cal l.prog w K mg base _ _ _ (cI _ _ _ _ wj):=Z44.cal X G fun F=>Du F Z0Y h_len;have Z41:Cal l.prog w K mg base _ _ _ (gE _ _ _ _ _ xI):=Z45.cal X G fun F=>Dv F Z0Y Z1m h_len h_range h_reversed h_sum;have Z3H:Cal l.prog w K mg base _ _ _ (cI _ _ _ _ pD):=Z3O.cal X G fun F=>Dw F;have C_way:Cal l.prog w K mg base _ _ _ (eK _ _ _ _ _ _ gL):=d_way.cal X G fun F=>Bp F Z41 Z3H Z1m h_enumerate Z1U Z1V;have Z2Q:Cal l.prog w K mg base _ _ _ (cI _ _ _ _ vC):=Z3v.cal X G fun F=>Dx F Z42 Z0Y C_way h_len;have Z2k:Cal l.prog w K mg base _ _ _ (cY _ _ xJ):=Z2n.cal X G fun F=>Dy F h_bool h_int h_isinstance h_len h_list h_tuple;have Z2V:Cal l.prog w K mg base _ _ _ (eK _ _ _ _ _ _ om):=Z34.cal X G fun F=>Dz F Z0K h_abs h_int h_zip;have Z2i:Cal l.prog w K mg base _ _ _ (eK _ _ _ _ _ _ wm):=Z35.cal X G fun F=>DA F Z2V h_all h_isinstance h_len h_list h_tuple h_zip;have Z2W:Cal l.prog w K mg base _ _ _ (eK _ _ _ _ _ _ xK):=Z36.cal X G fun F=>DB F Z11 Z0K h_abs h_int h_len h_zip;have Z1S:Cal l.prog w K mg base _ _ _ (gE _ _ _ _ _ wo):=Z2o.cal X G fun F=>DC F Z2k Z2i Z2W h_bool h_int h_isinstance h_len h_str h_tuple;exact FnOk.imp (Bq F_law Z2X Z2C Z0C Z1S Z2Q h_len h_list h_tuple) yl
theorem walk{l:Iy}{q:E4}{loose:List Str}{XP:(Str->Option DM)->Heap->Prop}{YP:E8->Heap->Prop}{d:DefRec}{K:NC->DJ}(hn:l.most=some 63)(hdf:d.params.defaults=[])(hY:∀(w:E8)(h:Heap),YP w h->(K w.params).In h)
  (F:∀(w:E8)(mg:Str->Option DM)(fa:Addr)(h:Heap),(K w.params).In h->h.Ns mainGlobals mg->mg d.name=some (.ref fa)->∃fd:Ee,(∀(s:DN)(u:DM),Le s fd ⟨[u],[]⟩ [("_law_script",u)])/\∀base:Heap,(K w.params).In base->base.Ns mainGlobals mg->FnOk l.prog w (K w.params) mg base CX0 10 fa fd ["_law_script"] (qN<|K w.params)):
  LZ q loose XP YP l.row.toRowW d [] (fun f vs=>M6 f vs):=
 L2.walk_of (n:=63) (k:=10) (x:="_law_script") (CX:=fun _=>CX0) (sp:=fun w=>qN<|K w.params) hn (by decide) hdf ⟨rfl,by decide,by decide⟩ hY F (fun _ _ a ns hl _ hS=>⟨a,ns,rfl,hS,hl,fun _=>rfl⟩) fun _ _ _ _ _ z=>z
end Wb
local macro_rules | `(tactic| walk_at "D") => `(tactic| (apply Wb.DI.mk; (case da => k_is); (case dl => k_is); (case dc => k_is); (case dk => k_is); exact fun _ _ _ _ _ _ _ => rfl))
open PySem PySem.W PyProof.Rows
set_option maxRecDepth 100000 in
set_option maxHeartbeats 0 in
theorem PySem.Challenge.cw_wornband_k38_whole_restoring_holds : PySem.Challenge.rw_wornband_k38_whole_restoring.Holds := by
 refine hd ?_
 k_fill
 refine Wb.walk (l:=FL) rfl rfl (fun w h Y=>PySem.W.kIn_of Y) ?F
 case F=>
  intro w mg fa h KX G hmg
  refine' Wb.fin_mk KX G hmg ?Z3s ?Z3o ?Z2D ?Z2Y ?Z2E ?Z3t ?Z2l ?Z2F ?Z2m ?Z2Z ?Z2G ?Z25 ?Z30 ?Z31 ?Z32 ?Z3p ?Z33 ?Z2H ?Z3I ?Z3q ?Z2d ?Z3u ?d_top ?Z3J ?Z2I ?Z43 ?Z3K ?Z3L ?Z3M ?Z26 ?Z3N ?Z44 ?Z45 ?Z3O ?d_way ?Z3v ?Z2n ?Z34 ?Z35 ?Z36 ?Z2o ?a_law ?l_law ?c_law ?k_law ?z_abs ?z_all ?z_bool ?z_enumerate ?z_int ?z_isinstance ?z_len ?z_list ?z_range ?z_reversed ?z_sorted ?z_str ?z_sum ?z_tuple ?z_zip ?Z46 ?Z3P ?Z3Q ?Z3R ?Z47 ?Z48 ?Z49 ?Z4a ?Z4b ?Z4c ?Z4i
  (case Z3s=>walk_at "D")
  (case Z3o=>walk_at "D")
  (case Z2D=>walk_at "D")
  (case Z2Y=>walk_at "D")
  (case Z2E=>walk_at "D")
  (case Z3t=>walk_at "D")
  (case Z2l=>walk_at "D")
  (case Z2F=>walk_at "D")
  (case Z2m=>walk_at "D")
  (case Z2Z=>walk_at "D")
  (case Z2G=>walk_at "D")
  (case Z25=>walk_at "D")
  (case Z30=>walk_at "D")
  (case Z31=>walk_at "D")
  (case Z32=>walk_at "D")
  (case Z3p=>walk_at "D")
  (case Z33=>walk_at "D")
  (case Z2H=>walk_at "D")
  (case Z3I=>walk_at "D")
  (case Z3q=>walk_at "D")
  (case Z2d=>walk_at "D")
  (case Z3u=>walk_at "D")
  (case d_top=>walk_at "D")
  (case Z3J=>walk_at "D")
  (case Z2I=>walk_at "D")
  (case Z43=>walk_at "D")
  (case Z3K=>walk_at "D")
  (case Z3L=>walk_at "D")
  (case Z3M=>walk_at "D")
  (case Z26=>walk_at "D")
  (case Z3N=>walk_at "D")
  (case Z44=>walk_at "D")
  (case Z45=>walk_at "D")
  (case Z3O=>walk_at "D")
  (case d_way=>walk_at "D")
  (case Z3v=>walk_at "D")
  (case Z2n=>walk_at "D")
  (case Z34=>walk_at "D")
  (case Z35=>walk_at "D")
  (case Z36=>walk_at "D")
  (case Z2o=>walk_at "D")
  (case a_law=>k_is)
  (case l_law=>k_is)
  (case c_law=>k_is)
  (case k_law=>k_is)
  (case z_abs=>k_is)
  (case z_all=>k_is)
  (case z_bool=>k_is)
  (case z_enumerate=>k_is)
  (case z_int=>k_is)
  (case z_isinstance=>k_is)
  (case z_len=>k_is)
  (case z_list=>k_is)
  (case z_range=>k_is)
  (case z_reversed=>k_is)
  (case z_sorted=>k_is)
  (case z_str=>k_is)
  (case z_sum=>k_is)
  (case z_tuple=>k_is)
  (case z_zip=>k_is)
  (case Z46=>k_is)
  (case Z3P=>k_is)
  (case Z3Q=>k_is)
  (case Z3R=>rfl)
  (case Z47=>k_is)
  (case Z48=>k_is)
  (case Z49=>k_is)
  (case Z4a=>k_is)
  (case Z4b=>rfl)
  (case Z4c=>k_is)
  (case Z4i=>k_is)
